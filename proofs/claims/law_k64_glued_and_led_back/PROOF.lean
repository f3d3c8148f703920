import PyProof.Rows.All
import Wide.All
import OpenK.AllK
import Wide.FinOn
import HandS.ForMost
import HandS.Wide
import HandS.Style
import HandS.IsInst
import HandS.Flow
import HandS.TryOnly
import HandS.TupMul
import HandS.ForExc
import HandS.ExcIs
import HandS.Zip
import HandS.SortInts
import HandS.SetFor
import HandS.Conv
import HandS.Walk
import KE.GoesEnum
import HandS.SortOrd
import HandS.Deep
import KE.SortData
import HandS.TupAny
import HandS.NoneIn
import KE.GoesMore
import KE.GoesZip
import HandS.Small
import KE.KMinBuiltin
import HandS.SortKw
import HandS.SetKeys
import KE.DataMinMax
import KE.KDictSum
import PyProof.Transfer
import HandS.Iter
import HandS.List
import HandS.Rev
import HandS.RevRange
import HandS.WordsDict
import PyProof.ReprRoads
import HandS.Strs
import HandS.RevTup
import HandS.ExcValue
import KE.KIndexOf
import HandS.FStr
import HandS.Text
import HandS.StrMore
import HandS.SuiteRaise
import HandS.RaiseFrom
import HandS.ExcValueFrom
import HandS.TupLe
import PyProof.StrOps2
import HandS.TupSets
import HandS.DictTup
import PySem.Challenge.RW_heavycut_k64_glued_and_led_back
set_option Elab.async false
set_option linter.all false
set_option maxRecDepth 100000
set_option maxHeartbeats 4000000
namespace Hc
open PySem PySem.Spec PyProof.Rows L2

/-! ### data in the heap, apart from the things L that may change -/
def keyD : Key → PyData
  | .inl i => .int i
  | .inr x => .str x
mutual
inductive Rp (L : List Addr) (H : Hp) : V → PyData → Prop
  | non : Rp L H .non .none
  | bl (b : Bool) : Rp L H (.bl b) (.bool b)
  | int (i : Int) : Rp L H (.int i) (.int i)
  | str (x : Str) : Rp L H (.str x) (.str x)
  | lst {a : Addr} {xs : List V} {ds : List PyData} : a ∉ L → H a = some (.lst xs) → RpA L H xs ds → Rp L H (.ref a) (.list ds)
  | tup {a : Addr} {xs : List V} {ds : List PyData} : a ∉ L → H a = some (.tup xs) → RpA L H xs ds → Rp L H (.ref a) (.tuple ds)
  | dct {a : Addr} {kvs : List (Key × V)} {ds : List (PyData × PyData)} : a ∉ L → H a = some (.dK kvs) → RpK L H kvs ds → Rp L H (.ref a) (.dict ds)
inductive RpA (L : List Addr) (H : Hp) : List V → List PyData → Prop
  | nil : RpA L H [] []
  | cons {v : V} {vs : List V} {d : PyData} {ds : List PyData} : Rp L H v d → RpA L H vs ds → RpA L H (v :: vs) (d :: ds)
inductive RpK (L : List Addr) (H : Hp) : List (Key × V) → List (PyData × PyData) → Prop
  | nil : RpK L H [] []
  | cons {k : Key} {v : V} {kvs : List (Key × V)} {d : PyData} {ds : List (PyData × PyData)} : Rp L H v d → RpK L H kvs ds → RpK L H ((k, v) :: kvs) ((keyD k, d) :: ds)
end
/-- what is outside L stays, and stays outside L' -/
def To (L L' : List Addr) (H H' : Hp) : Prop := ∀ a o, a ∉ L → H a = some o → a ∉ L' ∧ H' a = some o
mutual
theorem Rp.toP {L L' : List Addr} {H H' : Hp} (w : To L L' H H') : ∀ {v : V} {d : PyData}, Rp L H v d → Rp L' H' v d
  | _, _, .non => .non
  | _, _, .bl b => .bl b
  | _, _, .int i => .int i
  | _, _, .str x => .str x
  | _, _, .lst n e r => .lst (w _ _ n e).1 (w _ _ n e).2 (RpA.toP w r)
  | _, _, .tup n e r => .tup (w _ _ n e).1 (w _ _ n e).2 (RpA.toP w r)
  | _, _, .dct n e r => .dct (w _ _ n e).1 (w _ _ n e).2 (RpK.toP w r)
theorem RpA.toP {L L' : List Addr} {H H' : Hp} (w : To L L' H H') : ∀ {vs : List V} {ds : List PyData}, RpA L H vs ds → RpA L' H' vs ds
  | _, _, .nil => .nil
  | _, _, .cons a b => .cons (Rp.toP w a) (RpA.toP w b)
theorem RpK.toP {L L' : List Addr} {H H' : Hp} (w : To L L' H H') : ∀ {vs : List (Key × V)} {ds : List (PyData × PyData)}, RpK L H vs ds → RpK L' H' vs ds
  | _, _, .nil => .nil
  | _, _, .cons a b => .cons (Rp.toP w a) (RpK.toP w b)
end
theorem Rp.to {L L' : List Addr} {H H' : Hp} (w : To L L' H H') (d : PyData) (v : V) (h : Rp L H v d) : Rp L' H' v d := h.toP w
theorem RpA.to {L L' : List Addr} {H H' : Hp} (w : To L L' H H') (ds : List PyData) (vs : List V) (h : RpA L H vs ds) : RpA L' H' vs ds := h.toP w
/-- a dict with rows as keys: the keys are the same, the values lie in the heap -/
inductive Rt (L : List Addr) (H : Hp) : List (List Key × V) → List (List Key × PyData) → Prop
  | nil : Rt L H [] []
  | cons {k : List Key} {v : V} {d : PyData} {kvs : List (List Key × V)} {m : List (List Key × PyData)} : Rp L H v d → Rt L H kvs m → Rt L H ((k, v) :: kvs) ((k, d) :: m)
theorem Rt.toP {L L' : List Addr} {H H' : Hp} (w : To L L' H H') : ∀ {kvs : List (List Key × V)} {m : List (List Key × PyData)}, Rt L H kvs m → Rt L' H' kvs m
  | _, _, .nil => .nil
  | _, _, .cons a b => .cons (Rp.toP w a) (Rt.toP w b)
def kindO : HO → Nat
  | .lst _ => 0
  | .tup _ => 1
  | .dK _ => 2
  | .dT _ => 3
  | .frz _ (.dK _) => 2
  | .frz _ (.dT _) => 3
  | _ => 4
/-- what is outside L stays; what is in L stays of its kind -/
structure Wk (L : List Addr) (H H' : Hp) : Prop where
  st : ∀ a o, a ∉ L → H a = some o → H' a = some o
  kd : ∀ a o, H a = some o → ∃ o', H' a = some o' ∧ kindO o' = kindO o
instance {L : List Addr} {H H' : Hp} : CoeFun (Wk L H H') fun _ => ∀ a o, a ∉ L → H a = some o → H' a = some o := ⟨Wk.st⟩
theorem Wk.refl (L : List Addr) (H : Hp) : Wk L H H := ⟨fun _ _ _ h => h, fun _ o h => ⟨o, h, rfl⟩⟩
theorem Wk.trans {L : List Addr} {H H1 H2 : Hp} (a : Wk L H H1) (b : Wk L H1 H2) : Wk L H H2 := ⟨fun x o n h => b x o n (a x o n h), fun x o h => by
  obtain ⟨o1, e1, k1⟩ := a.kd x o h
  obtain ⟨o2, e2, k2⟩ := b.kd x o1 e1
  exact ⟨o2, e2, k2.trans k1⟩⟩
theorem Wk.over {L : List Addr} {H H1 : Hp} {D : Addr} {o : HO} (w : Wk L H H1) (h : H D = none) : Wk L H (upd H1 D o) := ⟨fun a u n e => by
  rw [upd_ne (ne_of_none e h)]; exact w a u n e, fun a u e => by
  obtain ⟨o', e', k⟩ := w.kd a u e
  exact ⟨o', by rw [upd_ne (ne_of_none e h)]; exact e', k⟩⟩
theorem Wk.of {L : List Addr} {H H' : Hp} (h : ∀ a o, H a = some o → H' a = some o) : Wk L H H' := ⟨fun a o _ e => h a o e, fun a o e => ⟨o, h a o e, rfl⟩⟩
theorem Wk.to {L : List Addr} {H H' : Hp} (w : Wk L H H') : To L L H H' := fun a o n h => ⟨n, w a o n h⟩
theorem Wk.new {L : List Addr} {H : Hp} {p : Addr} {o : HO} (h : H p = none) : Wk L H (upd H p o) := .of fun a u e => by
  rw [upd_ne (ne_of_none e h)]; exact e
theorem Wk.mut {L : List Addr} {H : Hp} {p : Addr} {o o0 : HO} (h : p ∈ L) (e0 : H p = some o0) (k : kindO o = kindO o0 := by rfl) : Wk L H (upd H p o) := ⟨fun a u n e => by
  rw [upd_ne (fun z : a = p => n (by rw [z]; exact h))]; exact e, fun a u e => by
  by_cases z : a = p
  · subst z
    rw [e0] at e
    cases e
    exact ⟨o, upd_same, k⟩
  · exact ⟨u, by rw [upd_ne z]; exact e, rfl⟩⟩
theorem Rp.mono {L : List Addr} {H H' : Hp} (w : Wk L H H') {d : PyData} {v : V} (h : Rp L H v d) : Rp L H' v d := Rp.to w.to d v h
theorem RpA.mono {L : List Addr} {H H' : Hp} (w : Wk L H H') {ds : List PyData} {vs : List V} (h : RpA L H vs ds) : RpA L H' vs ds := RpA.to w.to ds vs h
theorem RpA.append {L : List Addr} {H : Hp} : ∀ {xs ys : List V} {ds es : List PyData}, RpA L H xs ds → RpA L H ys es → RpA L H (xs ++ ys) (ds ++ es)
  | _, _, _, _, .nil, h => h
  | _, _, _, _, .cons a b, h => .cons a (RpA.append b h)
theorem RpA.length {L : List Addr} {H : Hp} : ∀ {xs : List V} {ds : List PyData}, RpA L H xs ds → xs.length = ds.length
  | _, _, .nil => rfl
  | _, _, .cons _ b => by simp [RpA.length b]
theorem RpA.get {L : List Addr} {H : Hp} : ∀ {xs : List V} {ds : List PyData} {i : Nat} {d : PyData}, RpA L H xs ds → ds[i]? = some d → ∃ v, xs[i]? = some v ∧ Rp L H v d
  | _, _, _, _, .nil, e => by simp at e
  | _, _, 0, _, .cons a _, e => by simp at e; subst e; exact ⟨_, rfl, a⟩
  | _, _, i + 1, d, .cons _ b, e => by
    obtain ⟨v, h1, h2⟩ := RpA.get (i := i) (d := d) b (by simpa using e)
    exact ⟨v, by simpa using h1, h2⟩
theorem RpA.get' {L : List Addr} {H : Hp} : ∀ {xs : List V} {ds : List PyData} {i : Nat} {v : V}, RpA L H xs ds → xs[i]? = some v → ∃ d, ds[i]? = some d ∧ Rp L H v d
  | _, _, _, _, .nil, e => by simp at e
  | _, _, 0, _, .cons a _, e => by simp at e; subst e; exact ⟨_, rfl, a⟩
  | _, _, i + 1, v, .cons _ b, e => by
    obtain ⟨d, h1, h2⟩ := RpA.get' (i := i) (v := v) b (by simpa using e)
    exact ⟨d, by simpa using h1, h2⟩
theorem RpA.take {L : List Addr} {H : Hp} : ∀ {xs : List V} {ds : List PyData} (n : Nat), RpA L H xs ds → RpA L H (xs.take n) (ds.take n)
  | _, _, 0, _ => by simp only [List.take_zero]; exact .nil
  | _, _, n + 1, .nil => .nil
  | _, _, n + 1, .cons a b => .cons a (RpA.take n b)
theorem RpA.drop {L : List Addr} {H : Hp} : ∀ {xs : List V} {ds : List PyData} (n : Nat), RpA L H xs ds → RpA L H (xs.drop n) (ds.drop n)
  | _, _, 0, h => h
  | _, _, n + 1, .nil => .nil
  | _, _, n + 1, .cons _ b => RpA.drop n b
theorem RpA.set {L : List Addr} {H : Hp} : ∀ {xs : List V} {ds : List PyData} {v : V} {d : PyData} (n : Nat), RpA L H xs ds → Rp L H v d → RpA L H (xs.set n v) (ds.set n d)
  | _, _, _, _, _, .nil, _ => .nil
  | _, _, _, _, 0, .cons _ b, h => .cons h b
  | _, _, _, _, n + 1, .cons a b, h => .cons a (RpA.set n b h)
theorem RpA.ints {L : List Addr} {H : Hp} : ∀ (ns : List Int), RpA L H (ns.map V.int) (ns.map PyData.int)
  | [] => .nil
  | n :: r => .cons (.int n) (RpA.ints r)
theorem RpA.ints_inv {L : List Addr} {H : Hp} : ∀ {ns : List Int} {xs : List V}, RpA L H xs (ns.map PyData.int) → xs = ns.map V.int
  | [], _, h => by cases h; rfl
  | n :: r, _, h => by
    cases h with
    | cons a b => cases a; rw [RpA.ints_inv b]; rfl
theorem RpA.bools_inv {L : List Addr} {H : Hp} : ∀ {ns : List Bool} {xs : List V}, RpA L H xs (ns.map PyData.bool) → xs = ns.map V.bl
  | [], _, h => by cases h; rfl
  | n :: r, _, h => by
    cases h with
    | cons a b => cases a; rw [RpA.bools_inv b]; rfl
mutual
theorem Rp.dp {K : PySem.W.Frag} {L : List Addr} {H : Hp} : ∀ (d : PyData) (v : V), d.canLay0 = true → Rp L H v d → Dp K H v d
  | .none, _, _, h => by cases h; exact .non
  | .bool b, _, _, h => by cases h; exact .bl b
  | .int i, _, _, h => by cases h; exact .int i
  | .str x, _, _, h => by cases h; exact .str x
  | .list ds, _, c, h => by
    cases h with
    | lst n e r => exact .lst (SqL.of e) (RpA.dp ds _ (by simpa [PyData.canLay0] using c) r)
  | .tuple ds, _, c, h => by
    cases h with
    | tup n e r => exact .tup (SqT.of e) (RpA.dp ds _ (by simpa [PyData.canLay0] using c) r)
  | .dict ds, _, c, h => by simp [PyData.canLay0] at c
theorem RpA.dp {K : PySem.W.Frag} {L : List Addr} {H : Hp} : ∀ (ds : List PyData) (vs : List V), PyData.canLayAll0 ds = true → RpA L H vs ds → DpAll K H vs ds
  | [], _, _, h => by cases h; exact .nil
  | d :: ds, _, c, h => by
    cases h with
    | cons a b =>
      have c' : d.canLay0 = true ∧ PyData.canLayAll0 ds = true := by simpa [PyData.canLayAll0, Bool.and_eq_true] using c
      exact .cons (Rp.dp d _ c'.1 a) (RpA.dp ds _ c'.2 b)
end
/-- the type of a datum -/
def tyN : PyData → String
  | .none => "NoneType" | .bool _ => "bool" | .int _ => "int" | .str _ => "str" | .list _ => "list" | .tuple _ => "tuple" | .dict _ => "dict"
theorem Rp.ty {K : PySem.W.Frag} {L : List Addr} {H : Hp} {v : V} {d : PyData} (h : Rp L H v d) : TyX K H v (.type (tyN d)) := by
  cases h with
  | non => exact .base .non
  | bl b => exact .base (.bl b)
  | int i => exact .base (.int i)
  | str x => exact .base (.str x)
  | lst n e r => exact .base (.lst e)
  | tup n e r => exact .base (.tup e)
  | dct n e r => exact .base (.dK e)


theorem Rp.keep {L M : List Addr} {H H' : Hp} (sub : ∀ p ∈ L, p ∈ M) (w : Wk L H H') {d : PyData} {v : V} (h : Rp M H v d) : Rp M H' v d := Rp.to (fun a o n e => ⟨n, w a o (fun z => n (sub a z)) e⟩) d v h
theorem RpA.keep {L M : List Addr} {H H' : Hp} (sub : ∀ p ∈ L, p ∈ M) (w : Wk L H H') {ds : List PyData} {vs : List V} (h : RpA M H vs ds) : RpA M H' vs ds := RpA.to (fun a o n e => ⟨n, w a o (fun z => n (sub a z)) e⟩) ds vs h

/-! ### slots, things that may change -/
inductive SD where
  | u | d (x : PyData) | m (k : Nat) | q (k : Nat) | g (ds : List (PyData × PyData)) | f (es : List PyData) | s (ns : List Int) | v (x : V) | h (φ : Addr → HO) | w (φ : List Addr → Hp → V → Prop) | o (k : Nat)
inductive MD where
  | l (es : List PyData)
  | r (ks : List Nat)
  | k (ds : List (PyData × PyData))
  | t (m : List (List Key × PyData))
  | z (o : Obj) (kvs : List (Key × V)) (ds : List (PyData × PyData))
  | x (ψ : List Addr → Hp → Addr → Prop)
/-- a fact on an object, that stays where what lies outside stays and the object stays -/
def StbO (ψ : List Addr → Hp → Addr → Prop) : Prop := ∀ (M M' : List Addr) (H H' : Hp) (p : Addr), To M M' H H' → H' p = H p → ψ M H p → ψ M' H' p
section
variable {K : PySem.W.Frag}
def MOk (L M : List Addr) (H : Hp) (j : Nat) (p : Addr) : MD → Prop
  | .l es => ∃ xs, H p = some (.lst xs) ∧ RpA M H xs es
  | .r ks => ∃ ps : List Addr, H p = some (.lst (ps.map V.ref)) ∧ ps.length = ks.length ∧ ∀ (i k : Nat) (q : Addr), ks[i]? = some k → ps[i]? = some q → L[k]? = some q ∧ k < j
  | .k ds => ∃ kvs, H p = some (.dK kvs) ∧ RpK M H kvs ds
  | .t m => ∃ kvs, H p = some (.dT kvs) ∧ Rt M H kvs m
  | .z o kvs ds => H p = some (.frz o (.dK kvs)) ∧ RpK M H kvs ds
  | .x ψ => ψ M H p ∧ StbO ψ
def NTup : HO → Prop
  | .tup _ => False
  | _ => True
/-- L: what may change, as ms tells it; M: all that is no part of data -/
structure At (L M : List Addr) (ms : List MD) (H : Hp) : Prop where
  nd : L.Nodup
  sub : ∀ p ∈ L, p ∈ M
  al : ∀ p ∈ M, ∃ o, H p = some o ∧ NTup o
  ln : L.length = ms.length
  ok : ∀ (k : Nat) (p : Addr) (m : MD), L[k]? = some p → ms[k]? = some m → MOk L M H k p m
section
variable {L M : List Addr} {ms : List MD} {H H' : Hp}
theorem MOk.toL {L L' M M' : List Addr} {p : Addr} {j : Nat} {m : MD} (t : To M M' H H') (hl : ∀ (k : Nat) (q : Addr), k < j → L[k]? = some q → L'[k]? = some q) (e : H' p = H p) (h : MOk L M H j p m) : MOk L' M' H' j p m := by
  cases m with
  | l es =>
    obtain ⟨xs, e1, r⟩ := h
    exact ⟨xs, by rw [e]; exact e1, RpA.to t _ _ r⟩
  | r ks =>
    obtain ⟨ps, e1, ln, r⟩ := h
    exact ⟨ps, by rw [e]; exact e1, ln, fun i k q h1 h2 => ⟨hl k q (r i k q h1 h2).2 (r i k q h1 h2).1, (r i k q h1 h2).2⟩⟩
  | k ds =>
    obtain ⟨kvs, e1, r⟩ := h
    exact ⟨kvs, by rw [e]; exact e1, r.toP t⟩
  | t ds =>
    obtain ⟨kvs, e1, r⟩ := h
    exact ⟨kvs, by rw [e]; exact e1, r.toP t⟩
  | z o kvs ds =>
    obtain ⟨e1, r⟩ := h
    exact ⟨by rw [e]; exact e1, r.toP t⟩
  | x ψ => exact ⟨h.2 _ _ _ _ _ t e h.1, h.2⟩
theorem MOk.to {L M M' : List Addr} {p : Addr} {j : Nat} {m : MD} (t : To M M' H H') (e : H' p = H p) (h : MOk L M H j p m) : MOk L M' H' j p m := h.toL t (fun _ _ _ q => q) e
theorem At.fresh (h : At L M ms H) {p : Addr} (e : H p = none) : p ∉ M := fun z => by
  obtain ⟨o, eo, _⟩ := h.al p z
  rw [e] at eo
  cases eo
theorem At.freshL (h : At L M ms H) {p : Addr} (e : H p = none) : p ∉ L := fun z => h.fresh e (h.sub p z)
theorem At.wk (h : At L M ms H) (w : Wk L H H') : To M M H H' := fun a o n e => ⟨n, w a o (fun z => n (h.sub a z)) e⟩
theorem At.new (h : At L M ms H) {p : Addr} {o : HO} (e : H p = none) : At L M ms (upd H p o) := by
  have ne : ∀ q, q ∈ M → q ≠ p := fun q hq z => h.fresh e (z ▸ hq)
  refine ⟨h.nd, h.sub, fun q hq => by rw [upd_ne (ne q hq)]; exact h.al q hq, h.ln, fun k q m e1 e2 => ?_⟩
  exact (h.ok k q m e1 e2).to (h.wk (Wk.new e)) (upd_ne (ne q (h.sub q (List.mem_of_getElem? e1))))
theorem At.put (h : At L M ms H) {k : Nat} {p : Addr} {xs xs0 : List V} {es : List PyData} (hk : L[k]? = some p) (e0 : H p = some (.lst xs0)) (r : RpA M H xs es) : At L M (ms.set k (.l es)) (upd H p (.lst xs)) := by
  have hp : p ∈ L := List.mem_of_getElem? hk
  have t : To M M H (upd H p (.lst xs)) := h.wk (Wk.mut hp e0)
  refine ⟨h.nd, h.sub, fun q hq => ?_, by rw [List.length_set]; exact h.ln, fun j q m e1 e2 => ?_⟩
  · by_cases e : q = p
    · subst e; rw [upd_same]; exact ⟨_, rfl, trivial⟩
    · rw [upd_ne e]; exact h.al q hq
  · by_cases hj : j = k
    · subst hj
      rw [e1] at hk
      cases hk
      have hl : j < ms.length := by rw [← h.ln]; exact (List.getElem?_eq_some_iff.mp e1).1
      rw [List.getElem?_set_self hl] at e2
      cases e2
      exact ⟨xs, upd_same, RpA.to t _ _ r⟩
    · rw [List.getElem?_set_ne (Ne.symm hj)] at e2
      have hq : q ≠ p := fun z => by
        subst z
        obtain ⟨l1, e1'⟩ := List.getElem?_eq_some_iff.mp e1
        obtain ⟨l2, e2'⟩ := List.getElem?_eq_some_iff.mp hk
        exact hj ((List.getElem_inj h.nd).mp (e1'.trans e2'.symm))
      exact (h.ok j q m e1 e2).to t (upd_ne hq)
theorem At.get (h : At L M ms H) {k : Nat} {p : Addr} {es : List PyData} (hk : L[k]? = some p) (e : ms[k]? = some (.l es)) : ∃ xs, H p = some (.lst xs) ∧ RpA M H xs es := h.ok k p _ hk e
/-- a new thing that may change -/
theorem to_new {p : Addr} (h : At L M ms H) (hp : H p = none) (w : Wk L H H') : To M (M ++ [p]) H H' := fun a o n e =>
  ⟨fun z => (List.mem_append.mp z).elim n fun z => ne_of_none e hp (by simpa using z), w a o (fun z => n (h.sub a z)) e⟩
theorem At.grow {p : Addr} {xs : List V} {es : List PyData} (h : At L M ms H) (hp : H p = none) (r : RpA M H xs es) : At (L ++ [p]) (M ++ [p]) (ms ++ [.l es]) (upd H p (.lst xs)) := by
  have n := h.freshL hp
  have t : To M (M ++ [p]) H (upd H p (.lst xs)) := to_new h hp (Wk.new hp)
  refine ⟨List.nodup_append.mpr ⟨h.nd, by simp, fun a ha b hb e => n (by simp at hb; subst hb e; exact ha)⟩, ?_, ?_, by simp [h.ln], fun k q m e1 e2 => ?_⟩
  · intro q hq
    rcases List.mem_append.mp hq with z | z
    · exact List.mem_append_left _ (h.sub q z)
    · exact List.mem_append_right _ z
  · intro q hq
    by_cases e : q = p
    · subst e; rw [upd_same]; exact ⟨_, rfl, trivial⟩
    · rw [upd_ne e]
      rcases List.mem_append.mp hq with z | z
      · exact h.al q z
      · exact absurd (by simpa using z) e
  · by_cases hk : k < L.length
    · rw [List.getElem?_append_left hk] at e1
      rw [List.getElem?_append_left (by rw [← h.ln]; exact hk)] at e2
      have hq : q ≠ p := fun z => n (z ▸ List.mem_of_getElem? e1)
      exact (h.ok k q m e1 e2).toL t (fun k' q' _ z => by rw [List.getElem?_append_left (List.getElem?_eq_some_iff.mp z).1]; exact z) (upd_ne hq)
    · have hk2 : k = L.length := by
        have := (List.getElem?_eq_some_iff.mp e1).1
        simp at this
        omega
      subst hk2
      simp at e1
      subst e1
      rw [h.ln] at e2
      simp at e2
      subst e2
      exact ⟨xs, upd_same, RpA.to t _ _ r⟩
theorem to_less {p : Addr} : To (M ++ [p]) M H H := fun a o n e => ⟨fun z => n (List.mem_append_left _ z), e⟩
theorem At.drop {p : Addr} {m : MD} (h : At (L ++ [p]) (M ++ [p]) (ms ++ [m]) H) (hl : ∀ q ∈ L, q ∈ M) : At L M ms H :=
  ⟨(List.nodup_append.mp h.nd).1, hl, fun q hq => h.al q (List.mem_append_left _ hq), by have := h.ln; simp at this; exact this, fun k q x e1 e2 => by
    have h1 : k < L.length := (List.getElem?_eq_some_iff.mp e1).1
    have h2 : k < ms.length := (List.getElem?_eq_some_iff.mp e2).1
    exact (h.ok k q x (by rw [List.getElem?_append_left h1]; exact e1) (by rw [List.getElem?_append_left h2]; exact e2)).toL to_less (fun k' q' hlt z => by rw [List.getElem?_append_left (by omega)] at z; exact z) rfl⟩
theorem At.last {p : Addr} {es : List PyData} (h : At (L ++ [p]) (M ++ [p]) (ms ++ [.l es]) H) : ∃ xs, H p = some (.lst xs) ∧ RpA (M ++ [p]) H xs es := by
  have hl : L.length = ms.length := by have := h.ln; simp at this; exact this
  exact h.ok L.length p (.l es) (by simp) (by rw [hl]; simp)
theorem At.putK (h : At L M ms H) {k : Nat} {p : Addr} {xs xs0 : List (Key × V)} {es : List (PyData × PyData)} (hk : L[k]? = some p) (e0 : H p = some (.dK xs0)) (r : RpK M H xs es) : At L M (ms.set k (.k es)) (upd H p (.dK xs)) := by
  have hp : p ∈ L := List.mem_of_getElem? hk
  have t : To M M H (upd H p (.dK xs)) := h.wk (Wk.mut hp e0)
  refine ⟨h.nd, h.sub, fun q hq => ?_, by rw [List.length_set]; exact h.ln, fun j q m e1 e2 => ?_⟩
  · by_cases e : q = p
    · subst e; rw [upd_same]; exact ⟨_, rfl, trivial⟩
    · rw [upd_ne e]; exact h.al q hq
  · by_cases hj : j = k
    · subst hj
      rw [e1] at hk
      cases hk
      have hl : j < ms.length := by rw [← h.ln]; exact (List.getElem?_eq_some_iff.mp e1).1
      rw [List.getElem?_set_self hl] at e2
      cases e2
      exact ⟨xs, upd_same, r.toP t⟩
    · rw [List.getElem?_set_ne (Ne.symm hj)] at e2
      have hq : q ≠ p := fun z => by
        subst z
        obtain ⟨l1, e1'⟩ := List.getElem?_eq_some_iff.mp e1
        obtain ⟨l2, e2'⟩ := List.getElem?_eq_some_iff.mp hk
        exact hj ((List.getElem_inj h.nd).mp (e1'.trans e2'.symm))
      exact (h.ok j q m e1 e2).to t (upd_ne hq)
theorem At.growK {p : Addr} {xs : List (Key × V)} {es : List (PyData × PyData)} (h : At L M ms H) (hp : H p = none) (r : RpK M H xs es) : At (L ++ [p]) (M ++ [p]) (ms ++ [.k es]) (upd H p (.dK xs)) := by
  have n := h.freshL hp
  have t : To M (M ++ [p]) H (upd H p (.dK xs)) := to_new h hp (Wk.new hp)
  refine ⟨List.nodup_append.mpr ⟨h.nd, by simp, fun a ha b hb e => n (by simp at hb; subst hb e; exact ha)⟩, ?_, ?_, by simp [h.ln], fun k q m e1 e2 => ?_⟩
  · intro q hq
    rcases List.mem_append.mp hq with z | z
    · exact List.mem_append_left _ (h.sub q z)
    · exact List.mem_append_right _ z
  · intro q hq
    by_cases e : q = p
    · subst e; rw [upd_same]; exact ⟨_, rfl, trivial⟩
    · rw [upd_ne e]
      rcases List.mem_append.mp hq with z | z
      · exact h.al q z
      · exact absurd (by simpa using z) e
  · by_cases hk : k < L.length
    · rw [List.getElem?_append_left hk] at e1
      rw [List.getElem?_append_left (by rw [← h.ln]; exact hk)] at e2
      have hq : q ≠ p := fun z => n (z ▸ List.mem_of_getElem? e1)
      exact (h.ok k q m e1 e2).toL t (fun k' q' _ z => by rw [List.getElem?_append_left (List.getElem?_eq_some_iff.mp z).1]; exact z) (upd_ne hq)
    · have hk2 : k = L.length := by
        have := (List.getElem?_eq_some_iff.mp e1).1
        simp at this
        omega
      subst hk2
      simp at e1
      subst e1
      rw [h.ln] at e2
      simp at e2
      subst e2
      exact ⟨xs, upd_same, r.toP t⟩
theorem At.lastK {p : Addr} {es : List (PyData × PyData)} (h : At (L ++ [p]) (M ++ [p]) (ms ++ [.k es]) H) : ∃ xs, H p = some (.dK xs) ∧ RpK (M ++ [p]) H xs es := by
  have hl : L.length = ms.length := by have := h.ln; simp at this; exact this
  exact h.ok L.length p (.k es) (by simp) (by rw [hl]; simp)
theorem At.getK (h : At L M ms H) {k : Nat} {p : Addr} {es : List (PyData × PyData)} (hk : L[k]? = some p) (e : ms[k]? = some (.k es)) : ∃ xs, H p = some (.dK xs) ∧ RpK M H xs es := h.ok k p _ hk e
end
/-- a dict, of either kind -/
def IsDc (H : Hp) (p : Addr) : Prop := ∃ o, H p = some o ∧ (kindO o = 2 ∨ kindO o = 3)
/-- an object of another kind: a set, an instance -/
def IsOb (H : Hp) (p : Addr) : Prop := ∃ o, H p = some o ∧ kindO o = 4
/-- a fact that stays where what lies outside stays -/
def Stb (φ : List Addr → Hp → V → Prop) : Prop := ∀ (M M' : List Addr) (H H' : Hp) (v : V), To M M' H H' → φ M H v → φ M' H' v
def SlOk (K : PySem.W.Frag) (L M : List Addr) (H : Hp) : SD → V → Prop
  | .d x, v => Rp M H v x
  | .m k, v => ∃ p, v = .ref p ∧ L[k]? = some p ∧ ∃ xs, H p = some (.lst xs)
  | .q k, v => ∃ p, v = .ref p ∧ L[k]? = some p ∧ IsDc H p
  | .s ns, v => ∃ a, v = .ref a ∧ ((a ∉ M ∧ Rd H a (.lst (ns.map V.int))) ∨ ∀ H' : Hp, SqL K H' a (ns.map V.int))
  | .v x, v => v = x
  | .h φ, v => ∃ a, v = .ref a ∧ a ∉ M ∧ H a = some (φ a)
  | .w φ, v => φ M H v ∧ Stb φ
  | .o k, v => ∃ p, v = .ref p ∧ L[k]? = some p ∧ IsOb H p
  | _, _ => False
section
variable {L M : List Addr} {ms : List MD} {H H' : Hp} {σ : L2.St} {ds : List SD}
theorem kind_lst {p : Addr} {xs : List V} (kd : ∀ a o, H a = some o → ∃ o', H' a = some o' ∧ kindO o' = kindO o) (e : H p = some (.lst xs)) : ∃ ys, H' p = some (.lst ys) := by
  obtain ⟨o, e', k⟩ := kd p _ e
  cases o <;> first | exact ⟨_, e'⟩ | cases k | (rename_i b; cases b <;> cases k)
theorem IsDc.kind {p : Addr} (kd : ∀ a o, H a = some o → ∃ o', H' a = some o' ∧ kindO o' = kindO o) (h : IsDc H p) : IsDc H' p := by
  obtain ⟨o, e, k⟩ := h
  obtain ⟨o', e', k'⟩ := kd p o e
  exact ⟨o', e', by rw [k']; exact k⟩
theorem IsDc.notL {p : Addr} {xs : List V} (h : IsDc H p) (e : H p = some (.lst xs)) : False := by
  obtain ⟨o, e1, k⟩ := h
  rw [e] at e1
  cases e1
  rcases k with k | k <;> cases k
theorem IsOb.kind {p : Addr} (kd : ∀ a o, H a = some o → ∃ o', H' a = some o' ∧ kindO o' = kindO o) (h : IsOb H p) : IsOb H' p := by
  obtain ⟨o, e, k⟩ := h
  obtain ⟨o', e', k'⟩ := kd p o e
  exact ⟨o', e', by rw [k']; exact k⟩
theorem IsOb.notL {p : Addr} {xs : List V} (h : IsOb H p) (e : H p = some (.lst xs)) : False := by
  obtain ⟨o, e1, k⟩ := h
  rw [e] at e1
  cases e1
  cases k
theorem IsOb.notK {p : Addr} {xs : List (Key × V)} (h : IsOb H p) (e : H p = some (.dK xs)) : False := by
  obtain ⟨o, e1, k⟩ := h
  rw [e] at e1
  cases e1
  cases k
theorem IsOb.notT {p : Addr} {xs : List (List Key × V)} (h : IsOb H p) (e : H p = some (.dT xs)) : False := by
  obtain ⟨o, e1, k⟩ := h
  rw [e] at e1
  cases e1
  cases k
theorem SlOk.to {L' M' : List Addr} (t : To M M' H H') (kd : ∀ a o, H a = some o → ∃ o', H' a = some o' ∧ kindO o' = kindO o) (hl : ∀ (k : Nat) (p : Addr), L[k]? = some p → L'[k]? = some p) : ∀ {s : SD} {v : V}, SlOk K L M H s v → SlOk K L' M' H' s v
  | .d x, v, h => Rp.to t _ _ h
  | .m k, v, ⟨p, e, q, xs, x⟩ => ⟨p, e, hl k p q, kind_lst kd x⟩
  | .q k, v, ⟨p, e, q, x⟩ => ⟨p, e, hl k p q, x.kind kd⟩
  | .s ns, v, ⟨a, e, .inl ⟨n, q⟩⟩ => ⟨a, e, .inl (by
      rcases q with q | ⟨o, q⟩
      · exact ⟨(t _ _ n q).1, .inl (t _ _ n q).2⟩
      · exact ⟨(t _ _ n q).1, .inr ⟨o, (t _ _ n q).2⟩⟩)⟩
  | .s ns, v, ⟨a, e, .inr q⟩ => ⟨a, e, .inr q⟩
  | .v x, v, h => h
  | .h φ, v, ⟨a, e, n, q⟩ => ⟨a, e, (t _ _ n q).1, (t _ _ n q).2⟩
  | .w φ, v, ⟨h, st⟩ => ⟨st _ _ _ _ _ t h, st⟩
  | .o k, v, ⟨p, e, q, x⟩ => ⟨p, e, hl k p q, x.kind kd⟩
  | .u, _, h => h.elim
  | .f _, _, h => h.elim
  | .g _, _, h => h.elim
theorem SlOk.mono (h : At L M ms H) (w : Wk L H H') {s : SD} {v : V} (r : SlOk K L M H s v) : SlOk K L M H' s v := r.to (h.wk w) w.kd fun _ _ e => e
def Sl (K : PySem.W.Frag) (L M : List Addr) (σ : L2.St) (H : Hp) (ds : List SD) : Prop := ∀ (i : Nat) (s : SD), ds[i]? = some s → match s with | .u => i < σ.length | s => ∃ v, σ[i]? = some (some v) ∧ SlOk K L M H s v
theorem Sl.lt (h : Sl K L M σ H ds) {i : Nat} (hi : i < ds.length) : i < σ.length := by
  have q := h i ds[i] (by simp [hi])
  split at q
  · exact q
  · obtain ⟨v, e, _⟩ := q
    exact (List.getElem?_eq_some_iff.mp e).1
theorem Sl.get (h : Sl K L M σ H ds) {i : Nat} {s : SD} (e : ds[i]? = some s) (n : s ≠ .u) : ∃ v, σ[i]? = some (some v) ∧ SlOk K L M H s v := by
  have q := h i s e
  split at q
  · exact absurd rfl n
  · exact q
theorem Sl.to {L' M' : List Addr} (t : To M M' H H') (kd : ∀ a o, H a = some o → ∃ o', H' a = some o' ∧ kindO o' = kindO o) (hl : ∀ (k : Nat) (p : Addr), L[k]? = some p → L'[k]? = some p) (h : Sl K L M σ H ds) : Sl K L' M' σ H' ds := fun i s e => by
  have q := h i s e
  split at q
  · exact q
  · obtain ⟨v, e1, e2⟩ := q
    exact ⟨v, e1, e2.to t kd hl⟩
theorem Sl.mono (a : At L M ms H) (w : Wk L H H') (h : Sl K L M σ H ds) : Sl K L M σ H' ds := h.to (a.wk w) w.kd fun _ _ e => e
theorem Sl.set (h : Sl K L M σ H ds) (i : Nat) {s : SD} {v : V} (r : SlOk K L M H s v) : Sl K L M (σ.set i (some v)) H (ds.set i s) := fun j t e => by
  by_cases hj : j = i
  · subst hj
    have hl : j < ds.length := by
      have := (List.getElem?_eq_some_iff.mp e).1
      rwa [List.length_set] at this
    rw [List.getElem?_set_self hl] at e
    cases e
    have hs := h.lt hl
    cases s with
    | u => exact r.elim
    | f _ => exact r.elim
    | g _ => exact r.elim
    | d x => exact ⟨v, List.getElem?_set_self hs, r⟩
    | m k => exact ⟨v, List.getElem?_set_self hs, r⟩
    | q k => exact ⟨v, List.getElem?_set_self hs, r⟩
    | s ns => exact ⟨v, List.getElem?_set_self hs, r⟩
    | v x => exact ⟨v, List.getElem?_set_self hs, r⟩
    | h φ => exact ⟨v, List.getElem?_set_self hs, r⟩
    | w φ => exact ⟨v, List.getElem?_set_self hs, r⟩
    | o k => exact ⟨v, List.getElem?_set_self hs, r⟩
  · rw [List.getElem?_set_ne (Ne.symm hj)] at e
    have q := h j t e
    split at q
    · show j < (σ.set i (some v)).length
      rw [List.length_set]; exact q
    · obtain ⟨w, e1, e2⟩ := q
      exact ⟨w, by rw [List.getElem?_set_ne (Ne.symm hj)]; exact e1, e2⟩
theorem Sl.forget (h : Sl K L M σ H ds) (i : Nat) (o : Option V) : Sl K L M (σ.set i o) H (ds.set i .u) := fun j t e => by
  by_cases hj : j = i
  · subst hj
    have hl : j < ds.length := by
      have := (List.getElem?_eq_some_iff.mp e).1
      rwa [List.length_set] at this
    rw [List.getElem?_set_self hl] at e
    cases e
    show j < (σ.set j o).length
    rw [List.length_set]; exact h.lt hl
  · rw [List.getElem?_set_ne (Ne.symm hj)] at e
    have q := h j t e
    split at q
    · show j < (σ.set i o).length
      rw [List.length_set]; exact q
    · obtain ⟨w, e1, e2⟩ := q
      exact ⟨w, by rw [List.getElem?_set_ne (Ne.symm hj)]; exact e1, e2⟩
end
def wipeD (ds : List SD) : List Nat → List SD
  | [] => ds
  | v :: vs => (wipeD ds vs).set v .u
theorem Sl.wipe {L M : List Addr} {σ : L2.St} {H : Hp} {ds : List SD} (h : Sl K L M σ H ds) : ∀ vs : List Nat, Sl K L M (L2.wipe σ vs) H (wipeD ds vs)
  | [] => h
  | v :: vs => (Sl.wipe h vs).forget v none
/-- what comes out of an evaluation that began at H -/
def Out (K : PySem.W.Frag) (L M : List Addr) (H H' : Hp) (ms : List MD) (v : V) : SD → Prop
  | .f es => ∃ p, v = .ref p ∧ H p = none ∧ p ∉ M ∧ At (L ++ [p]) (M ++ [p]) (ms ++ [.l es]) H' ∧ ∀ q ∈ L, q ∈ M
  | .g es => ∃ p, v = .ref p ∧ H p = none ∧ p ∉ M ∧ At (L ++ [p]) (M ++ [p]) (ms ++ [.k es]) H' ∧ ∀ q ∈ L, q ∈ M
  | s => At L M ms H' ∧ SlOk K L M H' s v
def dd : SD → SD
  | .f es => .d (.list es)
  | .g es => .d (.dict es)
  | s => s
section
variable {L M : List Addr} {ms : List MD} {H0 H H' : Hp} {v : V}
theorem Out.dd : ∀ {s : SD}, Out K L M H H' ms v s → Out K L M H H' ms v (dd s)
  | .f es, ⟨p, e, _, n, a, sb⟩ => by
    obtain ⟨xs, e1, r⟩ := a.last
    refine ⟨a.drop sb, ?_⟩
    subst e
    exact .lst n e1 (RpA.to to_less _ _ r)
  | .g es, ⟨p, e, _, n, a, sb⟩ => by
    obtain ⟨xs, e1, r⟩ := a.lastK
    refine ⟨a.drop sb, ?_⟩
    subst e
    exact .dct n e1 (r.toP to_less)
  | .d x, h => h
  | .m k, h => h
  | .q k, h => h
  | .s ns, h => h
  | .v x, h => h
  | .h x, h => h
  | .w x, h => h
  | .o x, h => h
  | .u, h => h
theorem none_back (a : At L M ms H) {p : Addr} (w : Wk L H0 H) (n : p ∉ M) (h : H p = none) : H0 p = none := by
  cases q : H0 p with
  | none => rfl
  | some o =>
    rw [w p o (fun z => n (a.sub p z)) q] at h
    cases h
theorem Out.back (a : At L M ms0 H) (w : Wk L H0 H) : ∀ {s : SD}, Out K L M H H' ms v s → Out K L M H0 H' ms v s
  | .f es, ⟨p, e, h, n, b, sb⟩ => ⟨p, e, none_back a w n h, n, b, sb⟩
  | .g es, ⟨p, e, h, n, b, sb⟩ => ⟨p, e, none_back a w n h, n, b, sb⟩
  | .d x, h => h
  | .m k, h => h
  | .q k, h => h
  | .s ns, h => h
  | .v x, h => h
  | .h x, h => h
  | .w x, h => h
  | .o x, h => h
  | .u, h => h
theorem Out.at : ∀ {s : SD}, Out K L M H H' ms v s → At L M ms H'
  | .f es, ⟨p, _, _, _, a, sb⟩ => a.drop sb
  | .g es, ⟨p, _, _, _, a, sb⟩ => a.drop sb
  | .d _, h => h.1
  | .m _, h => h.1
  | .q _, h => h.1
  | .s _, h => h.1
  | .v _, h => h.1
  | .h _, h => h.1
  | .w _, h => h.1
  | .o _, h => h.1
  | .u, h => h.1
theorem Out.of (a : At L M ms H') : ∀ {s : SD}, SlOk K L M H' s v → Out K L M H H' ms v s
  | .d x, h => ⟨a, h⟩
  | .m k, h => ⟨a, h⟩
  | .q k, h => ⟨a, h⟩
  | .s ns, h => ⟨a, h⟩
  | .v x, h => ⟨a, h⟩
  | .h x, h => ⟨a, h⟩
  | .w x, h => ⟨a, h⟩
  | .o x, h => ⟨a, h⟩
  | .u, h => h.elim
  | .f _, h => h.elim
  | .g _, h => h.elim
theorem Out.sl : ∀ {s : SD}, Out K L M H H' ms v s → SlOk K L M H' (Hc.dd s) v
  | .f es, h => (Out.dd h).2
  | .g es, h => (Out.dd h).2
  | .d _, h => h.2
  | .m _, h => h.2
  | .q _, h => h.2
  | .s _, h => h.2
  | .v _, h => h.2
  | .h _, h => h.2
  | .w _, h => h.2
  | .o _, h => h.2
  | .u, h => h.2
end

/-! ### evaluations, at the level of data -/
abbrev RS := SD → List MD → Prop
def E (K : PySem.W.Frag) (te : TE) (ds : List SD) (ms : List MD) (R : RS) : Prop :=
  ∀ (L M : List Addr) (σ : L2.St) (H : Hp), Sl K L M σ H ds → At L M ms H → ∀ Q : VK, (∀ s v H' ms', Wk L H H' → Out K L M H H' ms' v s → R s ms' → Q v H') → te σ H Q
def ET (K : PySem.W.Frag) (tt : TT) (ds : List SD) (ms : List MD) (R : Bool → List MD → Prop) : Prop :=
  ∀ (L M : List Addr) (σ : L2.St) (H : Hp), Sl K L M σ H ds → At L M ms H → ∀ Q : Bool → Hp → Prop, (∀ b H' ms', Wk L H H' → At L M ms' H' → R b ms' → Q b H') → tt σ H Q
def SlsOk (K : PySem.W.Frag) (L M : List Addr) (H : Hp) : List SD → List V → Prop
  | [], vs => vs = []
  | s :: r, vs => ∃ v t, vs = v :: t ∧ SlOk K L M H s v ∧ SlsOk K L M H r t
theorem SlsOk.mono {L M : List Addr} {ms : List MD} {H H' : Hp} (h : At L M ms H) (w : Wk L H H') : ∀ {as : List SD} {vs : List V}, SlsOk K L M H as vs → SlsOk K L M H' as vs
  | [], _, r => r
  | s :: r, _, ⟨v, t, e, a, b⟩ => ⟨v, t, e, a.mono h w, SlsOk.mono h w b⟩
def EA (K : PySem.W.Frag) (ta : TA) (ds : List SD) (ms : List MD) (R : List SD → List MD → Prop) : Prop :=
  ∀ (L M : List Addr) (σ : L2.St) (H : Hp), Sl K L M σ H ds → At L M ms H → ∀ Q : List V → Hp → Prop, (∀ as vs H' ms', Wk L H H' → At L M ms' H' → SlsOk K L M H' as vs → R as ms' → Q vs H') → ta σ H Q
/-- operations on values -/
def RR (K : PySem.W.Frag) (r : R2) (a b : SD) (ms : List MD) (R : RS) : Prop :=
  ∀ (L M : List Addr) (H : Hp) (x y : V), At L M ms H → SlOk K L M H a x → SlOk K L M H b y → ∀ Q : VK, (∀ s v H' ms', Wk L H H' → Out K L M H H' ms' v s → R s ms' → Q v H') → r x y H Q
def RU (K : PySem.W.Frag) (r : V → Hp → VK → Prop) (a : SD) (ms : List MD) (R : RS) : Prop :=
  ∀ (L M : List Addr) (H : Hp) (x : V), At L M ms H → SlOk K L M H a x → ∀ Q : VK, (∀ s v H' ms', Wk L H H' → Out K L M H H' ms' v s → R s ms' → Q v H') → r x H Q
def RC (K : PySem.W.Frag) (r : List V → Hp → VK → Prop) (as : List SD) (ms : List MD) (R : RS) : Prop :=
  ∀ (L M : List Addr) (H : Hp) (vs : List V), At L M ms H → SlsOk K L M H as vs → ∀ Q : VK, (∀ s v H' ms', Wk L H H' → Out K L M H H' ms' v s → R s ms' → Q v H') → r vs H Q

variable {te ta tb tc : TE} {tt tu : TT} {tA tB : TA} {ds : List SD} {ms : List MD} {R : RS}
theorem e_var {i : Nat} {x : PyData} (h : ds[i]? = some (.d x)) (r : R (.d x) ms) : E K (tVar i) ds ms R := fun L M σ H hS hA Q q => by
  obtain ⟨v, e, o⟩ := hS.get h (fun z => nomatch z)
  exact ⟨v, e, q _ v H ms (Wk.refl L H) (.of hA o) r⟩
theorem e_varm {i k : Nat} (h : ds[i]? = some (.m k)) (r : R (.m k) ms) : E K (tVar i) ds ms R := fun L M σ H hS hA Q q => by
  obtain ⟨v, e, o⟩ := hS.get h (fun z => nomatch z)
  exact ⟨v, e, q _ v H ms (Wk.refl L H) (.of hA o) r⟩
theorem e_vars {i : Nat} {ns : List Int} (h : ds[i]? = some (.s ns)) (r : R (.s ns) ms) : E K (tVar i) ds ms R := fun L M σ H hS hA Q q => by
  obtain ⟨v, e, o⟩ := hS.get h (fun z => nomatch z)
  exact ⟨v, e, q _ v H ms (Wk.refl L H) (.of hA o) r⟩
theorem e_int {i : Int} (r : R (.d (.int i)) ms) : E K (tC (.int i)) ds ms R := fun L M σ H hS hA Q q => q (.d (.int i)) _ H ms (Wk.refl L H) ⟨hA, .int i⟩ r
theorem e_bl {i : Bool} (r : R (.d (.bool i)) ms) : E K (tC (.bl i)) ds ms R := fun L M σ H hS hA Q q => q (.d (.bool i)) _ H ms (Wk.refl L H) ⟨hA, .bl i⟩ r
theorem e_non (r : R (.d .none) ms) : E K (tC .non) ds ms R := fun L M σ H hS hA Q q => q (.d .none) _ H ms (Wk.refl L H) ⟨hA, .non⟩ r
theorem e_str {x : Str} (r : R (.d (.str x)) ms) : E K (tC (.str x)) ds ms R := fun L M σ H hS hA Q q => q (.d (.str x)) _ H ms (Wk.refl L H) ⟨hA, .str x⟩ r
/-- two operands, then the operation -/
theorem e_op {r : R2} (h : E K ta ds ms fun a ms1 => E K tb ds ms1 fun b ms2 => RR K r (dd a) (dd b) ms2 R) : E K (tOp r ta tb) ds ms R := fun L M σ H hS hA Q q =>
  h L M σ H hS hA _ fun a x H1 ms1 w1 o1 h1 => h1 L M σ H1 (hS.mono hA w1) o1.at _ fun b y H2 ms2 w2 o2 h2 =>
    h2 L M H2 x y o2.at (o1.sl.mono o1.at w2) o2.sl Q fun s v H3 ms3 w3 o3 r3 => q s v H3 ms3 ((w1.trans w2).trans w3) (o3.back o2.at (w1.trans w2)) r3
theorem e_un {r : V → Hp → VK → Prop} (h : E K ta ds ms fun a ms1 => RU K r (dd a) ms1 R) : E K (tUn r ta) ds ms R := fun L M σ H hS hA Q q =>
  h L M σ H hS hA _ fun a x H1 ms1 w1 o1 h1 => h1 L M H1 x o1.at o1.sl Q fun s v H3 ms3 w3 o3 r3 => q s v H3 ms3 (w1.trans w3) (o3.back o1.at w1) r3
theorem ea_nil {R : List SD → List MD → Prop} (r : R [] ms) : EA K tNil ds ms R := fun L M σ H hS hA Q q => q [] [] H ms (Wk.refl L H) hA rfl r
theorem ea_cons {R : List SD → List MD → Prop} (h : E K ta ds ms fun a ms1 => EA K tA ds ms1 fun as ms2 => R (dd a :: as) ms2) : EA K (tCons ta tA) ds ms R := fun L M σ H hS hA Q q =>
  h L M σ H hS hA _ fun a x H1 ms1 w1 o1 h1 => h1 L M σ H1 (hS.mono hA w1) o1.at _ fun as vs H2 ms2 w2 a2 o2 r2 => q (dd a :: as) (x :: vs) H2 ms2 (w1.trans w2) a2 ⟨x, vs, rfl, o1.sl.mono o1.at w2, o2⟩ r2
theorem e_cb {r : List V → Hp → VK → Prop} (h : EA K tA ds ms fun as ms1 => RC K r as ms1 R) : E K (tCB r tA) ds ms R := fun L M σ H hS hA Q q =>
  h L M σ H hS hA _ fun as vs H1 ms1 w1 a1 o1 h1 => h1 L M H1 vs a1 o1 Q fun s v H3 ms3 w3 o3 r3 => q s v H3 ms3 (w1.trans w3) (o3.back a1 w1) r3
theorem SlsOk.data {L M : List Addr} {H : Hp} : ∀ {as : List PyData} {vs : List V}, SlsOk K L M H (as.map .d) vs → RpA M H vs as
  | [], _, h => by cases h; exact .nil
  | a :: r, _, ⟨v, t, e, x, y⟩ => by subst e; exact .cons x (SlsOk.data y)
/-- new tuples and lists -/
theorem e_tup (h : EA K tA ds ms fun as ms1 => ∃ xs, as = xs.map SD.d ∧ xs.length ≤ 10000 ∧ R (.d (.tuple xs)) ms1) : E K (tTup tA) ds ms R := fun L M σ H hS hA Q q =>
  h L M σ H hS hA _ fun as vs H1 ms1 w1 a1 o1 ⟨xs, e, hz, r⟩ => by
    subst e
    have hr := o1.data
    refine ⟨by rw [hr.length]; exact Nat.le_trans hz (by decide), fun p hp => ?_⟩
    refine q (.d (.tuple xs)) _ _ ms1 (w1.trans (Wk.new hp)) ⟨a1.new hp, ?_⟩ r
    exact .tup (a1.fresh hp) upd_same (RpA.to (a1.wk (Wk.new hp)) _ _ hr)
theorem out_new {L M : List Addr} {H H1 : Hp} {ms1 : List MD} {p : Addr} {xs : List V} {es : List PyData} (a1 : At L M ms1 H1) (w1 : Wk L H H1) (hp : H1 p = none) (hr : RpA M H1 xs es) : Out K L M H (upd H1 p (.lst xs)) ms1 (.ref p) (.f es) :=
  ⟨p, rfl, none_back a1 w1 (a1.fresh hp) hp, a1.fresh hp, a1.grow hp hr, a1.sub⟩
theorem out_newK {L M : List Addr} {H H1 : Hp} {ms1 : List MD} {p : Addr} {xs : List (Key × V)} {es : List (PyData × PyData)} (a1 : At L M ms1 H1) (w1 : Wk L H H1) (hp : H1 p = none) (hr : RpK M H1 xs es) : Out K L M H (upd H1 p (.dK xs)) ms1 (.ref p) (.g es) :=
  ⟨p, rfl, none_back a1 w1 (a1.fresh hp) hp, a1.fresh hp, a1.growK hp hr, a1.sub⟩
theorem e_lst (h : EA K tA ds ms fun as ms1 => ∃ xs, as = xs.map SD.d ∧ xs.length ≤ 10000 ∧ R (.f xs) ms1) : E K (tLst tA) ds ms R := fun L M σ H hS hA Q q =>
  h L M σ H hS hA _ fun as vs H1 ms1 w1 a1 o1 ⟨xs, e, hz, r⟩ => by
    subst e
    have hr := o1.data
    refine ⟨by rw [hr.length]; exact Nat.le_trans hz (by decide), fun p hp => ?_⟩
    exact q (.f xs) _ _ ms1 (w1.trans (Wk.new hp)) (out_new a1 w1 hp hr) r
/-! operations -/
theorem rr_I0 {g : Int → Int → Int} {a b : SD} (h : ∃ i j, a = .d (.int i) ∧ b = .d (.int j) ∧ R (.d (.int (g i j))) ms) : RR K (rI0 fun i j => .int (g i j)) a b ms R := fun L M H x y hA ha hb Q q => by
  obtain ⟨i, j, rfl, rfl, r⟩ := h
  cases ha; cases hb
  exact ⟨i, j, rfl, rfl, q (.d _) _ H ms (Wk.refl L H) ⟨hA, .int _⟩ r⟩
theorem rr_B0 {g : Int → Int → Bool} {a b : SD} (h : ∃ i j, a = .d (.int i) ∧ b = .d (.int j) ∧ R (.d (.bool (g i j))) ms) : RR K (rI0 fun i j => .bl (g i j)) a b ms R := fun L M H x y hA ha hb Q q => by
  obtain ⟨i, j, rfl, rfl, r⟩ := h
  cases ha; cases hb
  exact ⟨i, j, rfl, rfl, q (.d _) _ H ms (Wk.refl L H) ⟨hA, .bl _⟩ r⟩
theorem rr_I {C : Int → Int → Prop} {g : Int → Int → Int} {a b : SD} (h : ∃ i j, a = .d (.int i) ∧ b = .d (.int j) ∧ C i j ∧ R (.d (.int (g i j))) ms) : RR K (rI C fun i j => .int (g i j)) a b ms R := fun L M H x y hA ha hb Q q => by
  obtain ⟨i, j, rfl, rfl, c, r⟩ := h
  cases ha; cases hb
  exact ⟨i, j, rfl, rfl, c, q (.d _) _ H ms (Wk.refl L H) ⟨hA, .int _⟩ r⟩
theorem ru_I {g : Int → Int} {a : SD} (h : ∃ i, a = .d (.int i) ∧ R (.d (.int (g i))) ms) : RU K (rU fun i => .int (g i)) a ms R := fun L M H x hA ha Q q => by
  obtain ⟨i, rfl, r⟩ := h
  cases ha
  exact ⟨i, rfl, q (.d _) _ H ms (Wk.refl L H) ⟨hA, .int _⟩ r⟩
/-- a slot's datum, as it may be read -/
inductive Sv (ms : List MD) : SD → PyData → Prop
  | d (x : PyData) : Sv ms (.d x) x
  | m {k : Nat} {es : List PyData} : ms[k]? = some (.l es) → Sv ms (.m k) (.list es)
  | s (ns : List Int) : Sv ms (.s ns) (.list (ns.map .int))
section
variable {L M : List Addr} {H : Hp} {s : SD} {x : PyData} {v : V}
theorem Sv.lst {es : List PyData} (h : Sv ms s (.list es)) (hA : At L M ms H) (o : SlOk K L M H s v) : ∃ a xs, v = .ref a ∧ SqL K H a xs ∧ RpA M H xs es := by
  cases h with
  | d =>
    cases o with
    | lst n e r => exact ⟨_, _, rfl, SqL.of e, r⟩
  | m e =>
    obtain ⟨p, rfl, hp, hls⟩ := o
    obtain ⟨xs, e1, r⟩ := hA.get hp e
    exact ⟨p, xs, rfl, SqL.of e1, r⟩
  | s ns =>
    obtain ⟨a, rfl, ⟨_, q⟩ | q⟩ := o
    · exact ⟨a, _, rfl, .inl q, RpA.ints ns⟩
    · exact ⟨a, _, rfl, q H, RpA.ints ns⟩
theorem Sv.tup {es : List PyData} (h : Sv ms s (.tuple es)) (o : SlOk K L M H s v) : ∃ a xs, v = .ref a ∧ H a = some (.tup xs) ∧ RpA M H xs es := by
  cases h with
  | d =>
    cases o with
    | tup n e r => exact ⟨_, _, rfl, e, r⟩
theorem Sv.dp (h : Sv ms s x) (hA : At L M ms H) (o : SlOk K L M H s v) (c : x.canLay0 = true) : Dp K H v x := by
  cases h with
  | d => exact Rp.dp _ _ c o
  | m e =>
    obtain ⟨a, xs, rfl, q, r⟩ := Sv.lst (.m e) hA o
    exact .lst q (RpA.dp _ _ (by simpa [PyData.canLay0] using c) r)
  | s ns =>
    obtain ⟨a, xs, rfl, q, r⟩ := Sv.lst (.s ns) hA o
    exact .lst q (RpA.dp _ _ (by simpa [PyData.canLay0] using c) r)
theorem Sv.ty (h : Sv ms s x) (hA : At L M ms H) (o : SlOk K L M H s v) (hs : ∀ ns, s ≠ .s ns) : TyX K H v (.type (tyN x)) := by
  cases h with
  | d => exact Rp.ty o
  | m e =>
    obtain ⟨p, rfl, hp, hls⟩ := o
    obtain ⟨xs, e1, r⟩ := hA.get hp e
    exact .base (.lst e1)
  | s ns => exact absurd rfl (hs ns)
end
theorem rr_eq {a b : SD} (h : ∃ x y, Sv ms a x ∧ Sv ms b y ∧ SeqAt.shaped x = true ∧ SeqAt.shaped y = true ∧ R (.d (.bool (PyData.eqv x y))) ms) : RR K (rEqD K) a b ms R := fun L M H u v hA ha hb Q q => by
  obtain ⟨x, y, ea, eb, s1, s2, r⟩ := h
  exact ⟨x, y, ea.dp hA ha (SeqAt.canLay_of_shaped s1), eb.dp hA hb (SeqAt.canLay_of_shaped s2), s1, s2, q (.d _) _ H ms (Wk.refl L H) ⟨hA, .bl _⟩ r⟩
theorem rr_ne {a b : SD} (h : ∃ x y, Sv ms a x ∧ Sv ms b y ∧ SeqAt.shaped x = true ∧ SeqAt.shaped y = true ∧ R (.d (.bool (!PyData.eqv x y))) ms) : RR K (rNeD K) a b ms R := fun L M H u v hA ha hb Q q => by
  obtain ⟨x, y, ea, eb, s1, s2, r⟩ := h
  exact ⟨x, y, ea.dp hA ha (SeqAt.canLay_of_shaped s1), eb.dp hA hb (SeqAt.canLay_of_shaped s2), s1, s2, q (.d _) _ H ms (Wk.refl L H) ⟨hA, .bl _⟩ r⟩
end
end Hc

namespace Hc
open PySem PySem.Spec PyProof.Rows L2
section
variable {K : PySem.W.Frag} {te ta tb tc tl : TE} {tt tu : TT} {tA tB : TA} {ds : List SD} {ms : List MD} {R : RS}
/-! ### tests -/
theorem et_test {RB : Bool → List MD → Prop} (h : E K te ds ms fun s ms1 => ∃ b, s = .d (.bool b) ∧ RB b ms1) : ET K (tTest te) ds ms RB := fun L M σ H hS hA Q q =>
  h L M σ H hS hA _ fun s v H1 ms1 w o ⟨b, e, r⟩ => by
    subst e
    obtain ⟨a, z⟩ := o
    cases z
    exact ⟨b, rfl, q b H1 ms1 w a r⟩
theorem et_B {RB : Bool → List MD → Prop} (h : E K te ds ms fun s ms1 => ∃ b, s = .d (.bool b) ∧ RB b ms1) : ET K (L2.tB te) ds ms RB := fun L M σ H hS hA Q q =>
  h L M σ H hS hA _ fun s v H1 ms1 w o ⟨b, e, r⟩ => by
    subst e
    obtain ⟨a, z⟩ := o
    cases z
    exact ⟨b, rfl, q b H1 ms1 w a r⟩
theorem et_and {RB : Bool → List MD → Prop} (h : ET K tt ds ms fun b ms1 => (b = true → ET K tu ds ms1 RB) ∧ (b = false → RB false ms1)) : ET K (tAnd tt tu) ds ms RB := fun L M σ H hS hA Q q =>
  h L M σ H hS hA _ fun b H1 ms1 w a ⟨r1, r2⟩ => by
    cases b with
    | true =>
      show tu σ H1 Q
      exact r1 rfl L M σ H1 (hS.mono hA w) a Q fun c H2 ms2 w2 a2 r => q c H2 ms2 (w.trans w2) a2 r
    | false => exact q false H1 ms1 w a (r2 rfl)
theorem et_or {RB : Bool → List MD → Prop} (h : ET K tt ds ms fun b ms1 => (b = true → RB true ms1) ∧ (b = false → ET K tu ds ms1 RB)) : ET K (tOr tt tu) ds ms RB := fun L M σ H hS hA Q q =>
  h L M σ H hS hA _ fun b H1 ms1 w a ⟨r1, r2⟩ => by
    cases b with
    | false =>
      show tu σ H1 Q
      exact r2 rfl L M σ H1 (hS.mono hA w) a Q fun c H2 ms2 w2 a2 r => q c H2 ms2 (w.trans w2) a2 r
    | true => exact q true H1 ms1 w a (r1 rfl)
theorem et_not {RB : Bool → List MD → Prop} (h : ET K tt ds ms fun b ms1 => RB (!b) ms1) : ET K (tNot tt) ds ms RB := fun L M σ H hS hA Q q =>
  h L M σ H hS hA _ fun b H1 ms1 w a r => q (!b) H1 ms1 w a r
theorem et_yes {RB : Bool → List MD → Prop} (h : RB true ms) : ET K tYes ds ms RB := fun L M σ H hS hA Q q => q true H ms (Wk.refl L H) hA h
theorem e_and (h : E K ta ds ms fun s ms1 => ∃ b, s = .d (.bool b) ∧ (b = true → E K tb ds ms1 R) ∧ (b = false → R (.d (.bool false)) ms1)) : E K (tAndV ta tb) ds ms R := fun L M σ H hS hA Q q =>
  h L M σ H hS hA _ fun s v H1 ms1 w o ⟨b, e, r1, r2⟩ => by
    subst e
    obtain ⟨a, z⟩ := o
    cases z
    refine ⟨b, rfl, ?_⟩
    cases b with
    | true =>
      show tb σ H1 Q
      exact r1 rfl L M σ H1 (hS.mono hA w) a Q fun s v H2 ms2 w2 o2 r => q s v H2 ms2 (w.trans w2) (o2.back a w) r
    | false => exact q (.d (.bool false)) _ H1 ms1 w ⟨a, .bl false⟩ (r2 rfl)
theorem e_or (h : E K ta ds ms fun s ms1 => ∃ b, s = .d (.bool b) ∧ (b = true → R (.d (.bool true)) ms1) ∧ (b = false → E K tb ds ms1 R)) : E K (tOrV ta tb) ds ms R := fun L M σ H hS hA Q q =>
  h L M σ H hS hA _ fun s v H1 ms1 w o ⟨b, e, r1, r2⟩ => by
    subst e
    obtain ⟨a, z⟩ := o
    cases z
    refine ⟨b, rfl, ?_⟩
    cases b with
    | false =>
      show tb σ H1 Q
      exact r2 rfl L M σ H1 (hS.mono hA w) a Q fun s v H2 ms2 w2 o2 r => q s v H2 ms2 (w.trans w2) (o2.back a w) r
    | true => exact q (.d (.bool true)) _ H1 ms1 w ⟨a, .bl true⟩ (r1 rfl)
theorem e_not (h : E K ta ds ms fun s ms1 => ∃ b, s = .d (.bool b) ∧ R (.d (.bool (!b))) ms1) : E K (tNotV ta) ds ms R := fun L M σ H hS hA Q q =>
  h L M σ H hS hA _ fun s v H1 ms1 w o ⟨b, e, r⟩ => by
    subst e
    obtain ⟨a, z⟩ := o
    cases z
    exact ⟨b, rfl, q (.d (.bool (!b))) _ H1 ms1 w ⟨a, .bl (!b)⟩ r⟩
theorem e_if (h : ET K tt ds ms fun b ms1 => (b = true → E K ta ds ms1 R) ∧ (b = false → E K tb ds ms1 R)) : E K (tIf tt ta tb) ds ms R := fun L M σ H hS hA Q q =>
  h L M σ H hS hA _ fun b H1 ms1 w a ⟨r1, r2⟩ => by
    cases b with
    | true =>
      show ta σ H1 Q
      exact r1 rfl L M σ H1 (hS.mono hA w) a Q fun s v H2 ms2 w2 o2 r => q s v H2 ms2 (w.trans w2) (o2.back a w) r
    | false =>
      show tb σ H1 Q
      exact r2 rfl L M σ H1 (hS.mono hA w) a Q fun s v H2 ms2 w2 o2 r => q s v H2 ms2 (w.trans w2) (o2.back a w) r
theorem e_chain {r r' : R2} (h : E K ta ds ms fun a ms1 => E K tb ds ms1 fun b ms2 => RR K r (dd a) (dd b) ms2 fun s ms3 => ∃ k, s = .d (.bool k) ∧ (k = true → E K tc ds ms3 fun c ms4 => ∀ b', b' = dd b → RR K r' b' (dd c) ms4 R) ∧ (k = false → R (.d (.bool false)) ms3)) :
    E K (tChain r r' ta tb tc) ds ms R := fun L M σ H hS hA Q q =>
  h L M σ H hS hA _ fun a x H1 ms1 w1 o1 h1 => h1 L M σ H1 (hS.mono hA w1) o1.at _ fun b y H2 ms2 w2 o2 h2 =>
    h2 L M H2 x y o2.at (o1.sl.mono o1.at w2) o2.sl _ fun s z H3 ms3 w3 o3 ⟨k, e, k1, k2⟩ => by
      subst e
      obtain ⟨a3, zz⟩ := o3
      cases zz
      refine ⟨k, rfl, ?_⟩
      have w13 := (w1.trans w2).trans w3
      cases k with
      | true =>
        show tc σ H3 _
        exact k1 rfl L M σ H3 (hS.mono hA w13) a3 _ fun c u H4 ms4 w4 o4 h4 => h4 _ rfl L M H4 y u o4.at ((o2.sl.mono o2.at w3).mono a3 w4) o4.sl Q fun s v H5 ms5 w5 o5 r5 => q s v H5 ms5 ((w13.trans w4).trans w5) (o5.back o4.at (w13.trans w4)) r5
      | false => exact q (.d (.bool false)) _ H3 ms3 w13 ⟨a3, .bl false⟩ (k2 rfl)
/-! ### more operations -/
theorem atI_of {M : List Addr} {H : Hp} {xs : List V} {es : List PyData} {i : Int} {d : PyData} (r : RpA M H xs es) (h : atI es i = some d) : ∃ v, atI xs i = some v ∧ Rp M H v d := by
  unfold atI at h ⊢
  rw [r.length]
  cases e : ixN es.length i with
  | none => rw [e] at h; cases h
  | some j =>
    rw [e] at h
    obtain ⟨v, e1, e2⟩ := r.get (show es[j]? = some d from h)
    exact ⟨v, e1, e2⟩
theorem rr_ixL {a b : SD} (h : ∃ es i d, Sv ms a (.list es) ∧ b = .d (.int i) ∧ atI es i = some d ∧ R (.d d) ms) : RR K (rIxL K) a b ms R := fun L M H x y hA ha hb Q q => by
  obtain ⟨es, i, d, sa, rfl, e, r⟩ := h
  cases hb
  obtain ⟨p, xs, rfl, hq, hr⟩ := sa.lst hA ha
  obtain ⟨v, e1, e2⟩ := atI_of hr e
  exact ⟨p, xs, i, v, rfl, rfl, hq, e1, q (.d d) v H ms (Wk.refl L H) ⟨hA, e2⟩ r⟩
theorem rr_ixT {a b : SD} (h : ∃ es i d, Sv ms a (.tuple es) ∧ b = .d (.int i) ∧ atI es i = some d ∧ R (.d d) ms) : RR K (rIxT K) a b ms R := fun L M H x y hA ha hb Q q => by
  obtain ⟨es, i, d, sa, rfl, e, r⟩ := h
  cases hb
  obtain ⟨p, xs, rfl, hq, hr⟩ := sa.tup ha
  obtain ⟨v, e1, e2⟩ := atI_of hr e
  exact ⟨p, xs, i, v, rfl, rfl, SqT.of hq, e1, q (.d d) v H ms (Wk.refl L H) ⟨hA, e2⟩ r⟩
theorem rr_isB {a b : SD} (h : ∃ i j, a = .d (.bool i) ∧ b = .d (.bool j) ∧ R (.d (.bool (decide (i = j)))) ms) : RR K rIsB a b ms R := fun L M H x y hA ha hb Q q => by
  obtain ⟨i, j, rfl, rfl, r⟩ := h
  cases ha; cases hb
  exact ⟨i, j, rfl, rfl, q (.d _) _ H ms (Wk.refl L H) ⟨hA, .bl _⟩ r⟩
theorem rr_notB {a b : SD} (h : ∃ i j, a = .d (.bool i) ∧ b = .d (.bool j) ∧ R (.d (.bool (!decide (i = j)))) ms) : RR K rNotB a b ms R := fun L M H x y hA ha hb Q q => by
  obtain ⟨i, j, rfl, rfl, r⟩ := h
  cases ha; cases hb
  exact ⟨i, j, rfl, rfl, q (.d _) _ H ms (Wk.refl L H) ⟨hA, .bl _⟩ r⟩
theorem cat_lst {M : List Addr} {H : Hp} {x : V} {es : List PyData} (h : Rp M H x (.list es)) : ∃ p xs, x = .ref p ∧ H p = some (.lst xs) ∧ RpA M H xs es := by
  cases h with
  | lst n e r => exact ⟨_, _, rfl, e, r⟩
theorem rr_cat {a b : SD} (h : ∃ es fs, a = .d (.list es) ∧ b = .d (.list fs) ∧ es.length + fs.length ≤ 10000 ∧ R (.f (es ++ fs)) ms) : RR K rCat a b ms R := fun L M H x y hA ha hb Q q => by
  obtain ⟨es, fs, rfl, rfl, hz, r⟩ := h
  obtain ⟨p, xs, rfl, e1, r1⟩ := cat_lst ha
  obtain ⟨p2, ys, rfl, e2, r2⟩ := cat_lst hb
  refine ⟨p, p2, xs, ys, rfl, rfl, e1, e2, by rw [r1.length, r2.length]; exact Nat.le_trans hz (by decide), fun l hl => ?_⟩
  exact q (.f (es ++ fs)) _ _ ms (Wk.new hl) (out_new hA (Wk.refl L H) hl (r1.append r2)) r
/-! ### built-ins -/
theorem rc_abs {as : List SD} (h : ∃ i, as = [.d (.int i)] ∧ R (.d (.int (if i < 0 then -i else i))) ms) : RC K (fun xs H Q => ∃ i, xs = [.int i] ∧ Q (.int (if i < 0 then -i else i)) H) as ms R := fun L M H vs hA ha Q q => by
  obtain ⟨i, rfl, r⟩ := h
  obtain ⟨v, t, rfl, hv, rfl⟩ := ha
  cases hv
  exact ⟨i, rfl, q (.d _) _ H ms (Wk.refl L H) ⟨hA, .int _⟩ r⟩
theorem rc_max {as : List SD} (h : ∃ i j, as = [.d (.int i), .d (.int j)] ∧ R (.d (.int (if j > i then j else i))) ms) : RC K (fun xs H Q => ∃ i j, xs = [.int i, .int j] ∧ Q (.int (if j > i then j else i)) H) as ms R := fun L M H vs hA ha Q q => by
  obtain ⟨i, j, rfl, r⟩ := h
  obtain ⟨v, t, rfl, hv, v2, t2, rfl, hv2, rfl⟩ := ha
  cases hv; cases hv2
  exact ⟨i, j, rfl, q (.d _) _ H ms (Wk.refl L H) ⟨hA, .int _⟩ r⟩
theorem rc_min {as : List SD} (h : ∃ i j, as = [.d (.int i), .d (.int j)] ∧ R (.d (.int (if j < i then j else i))) ms) : RC K (fun xs H Q => ∃ i j, xs = [.int i, .int j] ∧ Q (.int (if j < i then j else i)) H) as ms R := fun L M H vs hA ha Q q => by
  obtain ⟨i, j, rfl, r⟩ := h
  obtain ⟨v, t, rfl, hv, v2, t2, rfl, hv2, rfl⟩ := ha
  cases hv; cases hv2
  exact ⟨i, j, rfl, q (.d _) _ H ms (Wk.refl L H) ⟨hA, .int _⟩ r⟩
theorem rc_len {as : List SD} (h : ∃ s es, as = [s] ∧ (Sv ms s (.list es) ∨ Sv ms s (.tuple es)) ∧ R (.d (.int es.length)) ms) : RC K (fun xs H Q => ∃ p ys, xs = [.ref p] ∧ (SqL K H p ys ∨ SqT K H p ys) ∧ Q (.int ys.length) H) as ms R := fun L M H vs hA ha Q q => by
  obtain ⟨s, es, rfl, sv, r⟩ := h
  obtain ⟨v, t, rfl, hv, rfl⟩ := ha
  rcases sv with sv | sv
  · obtain ⟨p, xs, rfl, hq, hr⟩ := sv.lst hA hv
    rw [← hr.length] at r
    exact ⟨p, xs, rfl, .inl hq, q (.d _) _ H ms (Wk.refl L H) ⟨hA, .int _⟩ r⟩
  · obtain ⟨p, xs, rfl, hq, hr⟩ := sv.tup hv
    rw [← hr.length] at r
    exact ⟨p, xs, rfl, .inr (SqT.of hq), q (.d _) _ H ms (Wk.refl L H) ⟨hA, .int _⟩ r⟩
theorem rc_tuple {as : List SD} (h : ∃ s es, as = [s] ∧ (Sv ms s (.list es) ∨ Sv ms s (.tuple es)) ∧ R (.d (.tuple es)) ms) :
    RC K (fun xs H Q => ∃ p ys, xs = [.ref p] ∧ ((SqL K H p ys ∧ ∀ l, H l = none → Q (.ref l) (upd H l (.tup ys))) ∨ (SqT K H p ys ∧ Q (.ref p) H))) as ms R := fun L M H vs hA ha Q q => by
  obtain ⟨s, es, rfl, sv, r⟩ := h
  obtain ⟨v, t, rfl, hv, rfl⟩ := ha
  rcases sv with sv | sv
  · obtain ⟨p, xs, rfl, hq, hr⟩ := sv.lst hA hv
    refine ⟨p, xs, rfl, .inl ⟨hq, fun l hl => ?_⟩⟩
    exact q (.d (.tuple es)) _ _ ms (Wk.new hl) ⟨hA.new hl, .tup (hA.fresh hl) upd_same (RpA.to (hA.wk (Wk.new hl)) _ _ hr)⟩ r
  · have hv2 : Rp M H v (.tuple es) := by cases sv; exact hv
    obtain ⟨p, xs, rfl, hq, hr⟩ := sv.tup hv
    exact ⟨p, xs, rfl, .inr ⟨SqT.of hq, q (.d (.tuple es)) _ H ms (Wk.refl L H) ⟨hA, hv2⟩ r⟩⟩
theorem rc_list {as : List SD} (h : ∃ s es, as = [s] ∧ (Sv ms s (.list es) ∨ Sv ms s (.tuple es)) ∧ R (.f es) ms) :
    RC K (fun xs H Q => ∃ p ys, xs = [.ref p] ∧ (SqL K H p ys ∨ SqT K H p ys) ∧ ∀ l, H l = none → Q (.ref l) (upd H l (.lst ys))) as ms R := fun L M H vs hA ha Q q => by
  obtain ⟨s, es, rfl, sv, r⟩ := h
  obtain ⟨v, t, rfl, hv, rfl⟩ := ha
  rcases sv with sv | sv
  · obtain ⟨p, xs, rfl, hq, hr⟩ := sv.lst hA hv
    exact ⟨p, xs, rfl, .inl hq, fun l hl => q (.f es) _ _ ms (Wk.new hl) (out_new hA (Wk.refl L H) hl hr) r⟩
  · obtain ⟨p, xs, rfl, hq, hr⟩ := sv.tup hv
    exact ⟨p, xs, rfl, .inr (SqT.of hq), fun l hl => q (.f es) _ _ ms (Wk.new hl) (out_new hA (Wk.refl L H) hl hr) r⟩
theorem rc_all {as : List SD} (h : ∃ (s : SD) (bs : List Bool), as = [s] ∧ Sv ms s (.list (bs.map .bool)) ∧ R (.d (.bool (bs.all id))) ms) : RC K (rAll K) as ms R := fun L M H vs hA ha Q q => by
  obtain ⟨s, bs, rfl, sv, r⟩ := h
  obtain ⟨v, t, rfl, hv, rfl⟩ := ha
  obtain ⟨p, xs, rfl, hq, hr⟩ := sv.lst hA hv
  rw [RpA.bools_inv hr] at hq
  exact ⟨p, bs, rfl, hq, q (.d _) _ H ms (Wk.refl L H) ⟨hA, .bl _⟩ r⟩
/-- isinstance -/
def inst (d : PyData) (T : String) : Bool := (kitB (tyN d) T).getD false
theorem e_isi {T : String} (hT : ∀ d, kitB (tyN d) T = some (inst d T)) (h : E K te ds ms fun s ms1 => ∃ x, Sv ms1 (dd s) x ∧ (∀ ns, dd s ≠ .s ns) ∧ R (.d (.bool (inst x T))) ms1) : E K (tCB (rIsi K) (tCons te (tCons (tC (.ty T)) tNil))) ds ms R := fun L M σ H hS hA Q q =>
  h L M σ H hS hA _ fun s v H1 ms1 w o ⟨x, sv, hs, r⟩ => ⟨v, .ty T, .type (tyN x), .type T, inst x T, rfl, .ty T, sv.ty o.at o.sl hs, kit_ty (hT x), q (.d _) _ H1 ms1 w ⟨o.at, .bl _⟩ r⟩
theorem e_isiT {T U : String} (hT : ∀ d, kitB (tyN d) T = some (inst d T)) (hU : ∀ d, kitB (tyN d) U = some (inst d U)) (h : E K te ds ms fun s ms1 => ∃ x, Sv ms1 (dd s) x ∧ (∀ ns, dd s ≠ .s ns) ∧ R (.d (.bool (inst x T || inst x U))) ms1) :
    E K (tCB (rIsiT K) (tCons te (tCons (tTup (tCons (tC (.ty T)) (tCons (tC (.ty U)) tNil))) tNil))) ds ms R := fun L M σ H hS hA Q q =>
  h L M σ H hS hA _ fun s v H1 ms1 w o ⟨x, sv, hs, r⟩ => ⟨by show 2 ≤ sizeLine; decide, fun p hp => by
    have a1 := o.at
    have k1 : PySem.W.kitAny K (.type (tyN x)) [.type T, .type U] = some (inst x T || inst x U) := by
      refine kitAny_cons (kit_ty (hT x)) (fun hb => ?_) (fun hb => by rw [hb]; rfl)
      rw [hb, Bool.false_or]
      refine kitAny_cons (kit_ty (hU x)) (fun hb => ?_) (fun hb => hb)
      rw [hb]; rfl
    have ty : TyX K (upd H1 p (.tup [.ty T, .ty U])) v (.type (tyN x)) := sv.ty (a1.new hp) (o.sl.mono a1 (Wk.new hp)) hs
    exact ⟨v, p, [.ty T, .ty U], .type (tyN x), [.type T, .type U], inst x T || inst x U, rfl, upd_same, .cons (.ty T) (.cons (.ty U) .nil), ty, k1, q (.d _) _ _ ms1 (w.trans (Wk.new hp)) ⟨a1.new hp, .bl _⟩ r⟩⟩
/-! ### methods of lists that may change -/
theorem e_pop (h : E K ta ds ms fun s ms1 => ∃ k es d, s = .m k ∧ ms1[k]? = some (.l (es ++ [d])) ∧ R (.d d) (ms1.set k (.l es))) : E K (tBM0 K "list" rPop ta) ds ms R := fun L M σ H hS hA Q q =>
  h L M σ H hS hA _ fun s v H1 ms1 w o ⟨k, es, d, e, em, r⟩ => by
    subst e
    obtain ⟨a1, p, rfl, hp, hls⟩ := o
    obtain ⟨xs, e1, r1⟩ := a1.get hp em
    have hpL : p ∈ L := List.mem_of_getElem? hp
    have hl : xs.length = es.length + 1 := by rw [r1.length]; simp
    obtain ⟨y, e2, r2⟩ := r1.get (i := es.length) (d := d) (by simp)
    refine ⟨.inl ⟨rfl, xs, SqL.of e1⟩, p, xs, y, rfl, rfl, e1, by rw [hl]; exact e2, ?_⟩
    have r3 : RpA M H1 xs.dropLast es := by
      have z := r1.take es.length
      rw [List.take_left] at z
      rw [List.dropLast_eq_take, hl]
      exact z
    exact q (.d d) y _ _ (w.trans (Wk.mut hpL e1)) ⟨a1.put hp e1 r3, Rp.to (a1.wk (Wk.mut hpL e1)) _ _ r2⟩ r
theorem e_popAt0 (h : E K ta ds ms fun s ms1 => ∃ k es d, s = .m k ∧ ms1[k]? = some (.l (d :: es)) ∧ R (.d d) (ms1.set k (.l es))) : E K (tBM K "list" rPopAt ta (tCons (tC (.int 0)) tNil)) ds ms R := fun L M σ H hS hA Q q =>
  h L M σ H hS hA _ fun s v H1 ms1 w o ⟨k, es, d, e, em, r⟩ => by
    subst e
    obtain ⟨a1, p, rfl, hp, hls⟩ := o
    obtain ⟨xs, e1, r1⟩ := a1.get hp em
    have hpL : p ∈ L := List.mem_of_getElem? hp
    cases r1 with
    | @cons y ys _ _ r2 r3 =>
      refine ⟨.inl ⟨rfl, _, SqL.of e1⟩, p, y :: ys, 0, 0, y, rfl, rfl, e1, by decide, by decide, ?_, rfl, ?_⟩
      · unfold seqIndex?
        simp
      · exact q (.d d) y _ _ (w.trans (Wk.mut hpL e1)) ⟨a1.put hp e1 r3, Rp.to (a1.wk (Wk.mut hpL e1)) _ _ r2⟩ r
theorem e_append (h : E K ta ds ms fun s ms1 => ∃ k, s = .m k ∧ E K te ds ms1 fun x ms2 => ∃ d es, dd x = .d d ∧ ms2[k]? = some (.l es) ∧ es.length < 10000 ∧ R (.d .none) (ms2.set k (.l (es ++ [d])))) : E K (tBM K "list" rAppend ta (tCons te tNil)) ds ms R := fun L M σ H hS hA Q q =>
  h L M σ H hS hA _ fun s v H1 ms1 w o ⟨k, e, h2⟩ => by
    subst e
    obtain ⟨a1, p, rfl, hp, hls⟩ := o
    have hpL : p ∈ L := List.mem_of_getElem? hp
    have hk : k < ms1.length := by rw [← a1.ln]; exact (List.getElem?_eq_some_iff.mp hp).1
    · obtain ⟨xs0, e0⟩ := hls
      refine ⟨.inl ⟨rfl, xs0, SqL.of e0⟩, ?_⟩
      refine h2 L M σ H1 (hS.mono hA w) a1 _ fun x y H2 ms2 w2 o2 ⟨d, es, ed, em, hz, r⟩ => ?_
      have a2 := o2.at
      have ry := o2.sl
      rw [ed] at ry
      obtain ⟨xs, e1, r1⟩ := a2.get hp em
      refine ⟨p, xs, y, rfl, rfl, e1, by rw [r1.length]; exact Nat.lt_trans hz (by decide), ?_⟩
      exact q (.d .none) .non _ _ ((w.trans w2).trans (Wk.mut hpL e1)) ⟨a2.put hp e1 (r1.append (.cons ry .nil)), .non⟩ r
/-! ### calls of the program's own defs -/
abbrev Ph := List SD → List MD → RS → Prop
def SpD (K : PySem.W.Frag) (Φ : Ph) : Sp := fun vs H Q _ => ∃ L M ms as R, At L M ms H ∧ SlsOk K L M H as vs ∧ Φ as ms R ∧ ∀ s v H' ms', Wk L H H' → Out K L M H H' ms' v s → R s ms' → Q v H'
theorem e_call {Φ : Ph} {E0 : XK} (h : EA K tA ds ms fun as ms1 => Φ as ms1 R) : E K (tCall (SpD K Φ) [] E0 tA) ds ms R := fun L M σ H hS hA Q q =>
  h L M σ H hS hA _ fun as vs H1 ms1 w1 a1 o1 h1 => by
    rw [List.append_nil]
    exact ⟨L, M, ms1, as, R, a1, o1, h1, fun s v H3 ms3 w3 o3 r3 => q s v H3 ms3 (w1.trans w3) (o3.back a1 w1) r3⟩
/-! ### statements -/
structure Po where
  nx : List SD → List MD → Prop
  rt : RS
  bk : List SD → List MD → Prop
  ct : List SD → List MD → Prop
def Nx (K : PySem.W.Frag) (L M : List Addr) (H : Hp) (N : List SD → List MD → Prop) (C : L2.St → Hp → Prop) : Prop := ∀ σ' H' ds' ms', Wk L H H' → Sl K L M σ' H' ds' → At L M ms' H' → N ds' ms' → C σ' H'
def Rx (K : PySem.W.Frag) (L M : List Addr) (H : Hp) (R : RS) (Q : VK) : Prop := ∀ s v H' ms', Wk L H H' → Out K L M H H' ms' v s → R s ms' → Q v H'
def S (K : PySem.W.Frag) (t : TS) (ds : List SD) (ms : List MD) (P : Po) : Prop :=
  ∀ (L M : List Addr) (σ : L2.St) (H : Hp), Sl K L M σ H ds → At L M ms H → ∀ D : Ends, Nx K L M H P.nx D.nx → Rx K L M H P.rt D.rt → Nx K L M H P.bk D.bk → Nx K L M H P.ct D.ct → t D σ H
section
variable {L M : List Addr} {H H1 : Hp} {N : List SD → List MD → Prop} {C : L2.St → Hp → Prop} {Q : VK} {ms1 : List MD}
theorem Nx.on (w : Wk L H H1) (h : Nx K L M H N C) : Nx K L M H1 N C := fun σ' H' ds' ms' w2 => h σ' H' ds' ms' (w.trans w2)
theorem Rx.on (a : At L M ms1 H1) (w : Wk L H H1) (h : Rx K L M H R Q) : Rx K L M H1 R Q := fun s v H' ms' w2 o r => h s v H' ms' (w.trans w2) (o.back a w) r
end
variable {t u : TS} {P : Po}
theorem s_next (h : P.nx ds ms) : S K tNext ds ms P := fun L M σ H hS hA D n _ _ _ => n σ H ds ms (Wk.refl L H) hS hA h
theorem s_seq (h : S K t ds ms { P with nx := fun ds1 ms1 => S K u ds1 ms1 P }) : S K (tSeq t u) ds ms P := fun L M σ H hS hA D n r b c =>
  h L M σ H hS hA { D with nx := u D } (fun σ1 H1 ds1 ms1 w s1 a1 h1 => h1 L M σ1 H1 s1 a1 D (n.on w) (r.on a1 w) (b.on w) (c.on w)) r b c
theorem s_asg {i : Nat} (h : E K te ds ms fun s ms1 => P.nx (ds.set i (dd s)) ms1) : S K (tAsg te (gName i)) ds ms P := fun L M σ H hS hA D n r b c =>
  h L M σ H hS hA _ fun s v H1 ms1 w o h1 => n _ H1 _ ms1 w ((hS.mono hA w).set i o.sl) o.at h1
theorem s_ret (h : E K te ds ms P.rt) : S K (tRet te) ds ms P := fun L M σ H hS hA D n r b c => h L M σ H hS hA _ fun s v H1 ms1 w o h1 => r s v H1 ms1 w o h1
theorem s_drop (h : E K te ds ms fun _ ms1 => P.nx ds ms1) : S K (tDrop te) ds ms P := fun L M σ H hS hA D n r b c =>
  h L M σ H hS hA _ fun s v H1 ms1 w o h1 => n σ H1 ds ms1 w (hS.mono hA w) o.at h1
theorem s_if (h : ET K tt ds ms fun b ms1 => (b = true → S K t ds ms1 P) ∧ (b = false → S K u ds ms1 P)) : S K (tIfS tt t u) ds ms P := fun L M σ H hS hA D n r b c =>
  h L M σ H hS hA _ fun k H1 ms1 w a ⟨h1, h2⟩ => by
    cases k with
    | true => exact h1 rfl L M σ H1 (hS.mono hA w) a D (n.on w) (r.on a w) (b.on w) (c.on w)
    | false => exact h2 rfl L M σ H1 (hS.mono hA w) a D (n.on w) (r.on a w) (b.on w) (c.on w)
theorem s_par {i j : Nat} (h : EA K tA ds ms fun as ms1 => ∃ x y, as = [x, y] ∧ P.nx ((ds.set i x).set j y) ms1) : S K (tPar i j tA) ds ms P := fun L M σ H hS hA D n r b c =>
  h L M σ H hS hA _ fun as vs H1 ms1 w a o ⟨x, y, e, h1⟩ => by
    subst e
    obtain ⟨v1, t1, rfl, o1, v2, t2, rfl, o2, rfl⟩ := o
    exact ⟨v1, v2, rfl, n _ H1 _ ms1 w (((hS.mono hA w).set i o1).set j o2) a h1⟩
/-- targets: js the slots that are stored -/
def EG (K : PySem.W.Frag) (g : TG) (js : List Nat) (x : SD) (ds : List SD) (ms : List MD) (N : List SD → List MD → Prop) : Prop :=
  ∀ (L M : List Addr) (σ : L2.St) (H : Hp) (v : V), Sl K L M σ H ds → At L M ms H → SlOk K L M H x v → ∀ C : L2.St → Hp → Prop, (∀ σ' ds', Sl K L M σ' H ds' → (∀ vs : List Nat, (∀ j ∈ js, j ∈ vs) → L2.wipe σ' vs = L2.wipe σ vs) → N ds' ms → C σ' H) → g v σ H C
def EGs (K : PySem.W.Frag) (g : TGs) (js : List Nat) (xs : List PyData) (ds : List SD) (ms : List MD) (N : List SD → List MD → Prop) : Prop :=
  ∀ (L M : List Addr) (σ : L2.St) (H : Hp) (vs : List V), Sl K L M σ H ds → At L M ms H → RpA M H vs xs → ∀ C : L2.St → Hp → Prop, (∀ σ' ds', Sl K L M σ' H ds' → (∀ vs : List Nat, (∀ j ∈ js, j ∈ vs) → L2.wipe σ' vs = L2.wipe σ vs) → N ds' ms → C σ' H) → g vs σ H C
theorem wipe_get (σ : L2.St) (i : Nat) : ∀ vs : List Nat, (L2.wipe σ vs)[i]? = if i ∈ vs then (if i < σ.length then some none else none) else σ[i]?
  | [] => by simp [L2.wipe]
  | v :: vs => by
    unfold L2.wipe
    by_cases e : v = i
    · subst e
      rw [List.getElem?_set, if_pos rfl, if_pos List.mem_cons_self, wipe_length]
    · rw [List.getElem?_set_ne e, wipe_get σ i vs]
      by_cases h : i ∈ vs
      · rw [if_pos h, if_pos (List.mem_cons_of_mem _ h)]
      · rw [if_neg h, if_neg (fun z => (List.mem_cons.mp z).elim (fun z => e z.symm) h)]
theorem wipe_set (σ : L2.St) (j : Nat) (o : Option V) (vs : List Nat) (h : j ∈ vs) : L2.wipe (σ.set j o) vs = L2.wipe σ vs := by
  apply List.ext_getElem?
  intro i
  rw [wipe_get, wipe_get, List.length_set]
  by_cases e : i ∈ vs
  · rw [if_pos e, if_pos e]
  · rw [if_neg e, if_neg e, List.getElem?_set_ne (fun z : j = i => e (by rw [← z]; exact h))]
variable {N : List SD → List MD → Prop}
theorem eg_name {i : Nat} {x : SD} (h : N (ds.set i x) ms) : EG K (gName i) [i] x ds ms N := fun L M σ H v hS hA ho C c =>
  c _ _ (hS.set i ho) (fun vs hv => wipe_set σ i (some v) vs (hv i (by simp))) h
theorem egs_nil (h : N ds ms) : EGs K gNil [] [] ds ms N := fun L M σ H vs hS hA hr C c => by
  cases hr
  exact ⟨rfl, c σ ds hS (fun _ _ => rfl) h⟩
theorem egs_cons {g : TG} {gs : TGs} {js js' : List Nat} {x : PyData} {xs : List PyData} (h : EG K g js (.d x) ds ms fun ds1 ms1 => EGs K gs js' xs ds1 ms1 N) : EGs K (gCons g gs) (js ++ js') (x :: xs) ds ms N := fun L M σ H vs hS hA hr C c => by
  cases hr with
  | @cons v r _ _ r1 r2 =>
    refine ⟨v, r, rfl, ?_⟩
    refine h L M σ H v hS hA r1 _ fun σ1 ds1 s1 w1 h1 => ?_
    refine h1 L M σ1 H r s1 hA r2 C fun σ2 ds2 s2 w2 h2 => ?_
    exact c σ2 ds2 s2 (fun vs hv => (w2 vs fun j hj => hv j (List.mem_append_right _ hj)).trans (w1 vs fun j hj => hv j (List.mem_append_left _ hj))) h2
theorem eg_tup {gs : TGs} {js : List Nat} {n : Nat} {xs : List PyData} (hn : xs.length = n) (h : EGs K gs js xs ds ms N) : EG K (gTup K n gs) js (.d (.tuple xs)) ds ms N := fun L M σ H v hS hA ho C c => by
  obtain ⟨a, ys, rfl, e, r⟩ := Sv.tup (ms := ms) (K := K) (L := L) (.d (.tuple xs)) ho
  exact ⟨a, ys, rfl, SqT.of e, by rw [r.length]; exact hn, h L M σ H ys hS hA r C c⟩
theorem s_asgG {g : TG} {js : List Nat} (h : E K te ds ms fun s ms1 => EG K g js (dd s) ds ms1 P.nx) : S K (tAsg te g) ds ms P := fun L M σ H hS hA D n r b c =>
  h L M σ H hS hA _ fun s v H1 ms1 w o h1 => h1 L M σ H1 v (hS.mono hA w) o.at o.sl _ fun σ' ds' s' _ h2 => n σ' H1 ds' ms1 w s' o.at h2
/-- xs[i] = e, of a list that may change -/
theorem s_setL {to ti : TE} (h : E K te ds ms fun x ms1 => ∃ d, dd x = .d d ∧ E K to ds ms1 fun s ms2 => ∃ k, s = .m k ∧ E K ti ds ms2 fun y ms3 => ∃ (i : Int) (j : Nat) (es : List PyData), y = .d (.int i) ∧ ms3[k]? = some (.l es) ∧ ixN es.length i = some j ∧ P.nx ds (ms3.set k (.l (es.set j d)))) :
    S K (tAsg te (gSub to ti rSetL)) ds ms P := fun L M σ H hS hA D n r b c =>
  h L M σ H hS hA _ fun x v H1 ms1 w1 o1 ⟨d, ed, h1⟩ => h1 L M σ H1 (hS.mono hA w1) o1.at _ fun s v2 H2 ms2 w2 o2 ⟨k, ek, h2⟩ =>
    h2 L M σ H2 ((hS.mono hA w1).mono o1.at w2) o2.at _ fun y v3 H3 ms3 w3 o3 ⟨i, j, es, ey, em, hj, h3⟩ => by
      have rv := (o1.sl.mono o1.at w2).mono o2.at w3
      rw [ed] at rv
      have a3 := o3.at
      subst ey ek
      obtain ⟨_, p, rfl, hp, hls⟩ := o2
      obtain ⟨_, z⟩ := o3
      cases z
      have hpL : p ∈ L := List.mem_of_getElem? hp
      obtain ⟨xs, e1, r1⟩ := a3.get hp em
      refine ⟨p, xs, i, j, rfl, rfl, e1, by rw [r1.length]; exact hj, ?_⟩
      have w13 := ((w1.trans w2).trans w3).trans (Wk.mut (H := H3) (o := .lst (xs.set j v)) hpL e1)
      exact n σ _ ds _ w13 (hS.mono hA w13) (a3.put hp e1 (r1.set j rv)) h3
/-! ### loops -/
section
variable {L M : List Addr} {H H1 : Hp}
/-- a source that stands still -/
inductive Sw : SD → List PyData → Prop
  | d (es : List PyData) : Sw (.d (.list es)) es
  | s (ns : List Int) : Sw (.s ns) (ns.map .int)
theorem Sw.is {s : SD} {es : List PyData} {v : V} (h : Sw s es) (hA : At L M ms H) (o : SlOk K L M H s v) : ∃ a xs, v = .ref a ∧ RpA M H xs es ∧ ∀ H', Wk L H H' → SqL K H' a xs := by
  cases h with
  | d =>
    cases o with
    | @lst a xs _ n e r => exact ⟨a, xs, rfl, r, fun H' w => SqL.of (w a _ (fun z => n (hA.sub a z)) e)⟩
  | s ns =>
    obtain ⟨a, rfl, ⟨n, q⟩ | q⟩ := o
    · refine ⟨a, _, rfl, RpA.ints ns, fun H' w => ?_⟩
      have n' : a ∉ L := fun z => n (hA.sub a z)
      rcases q with q | ⟨o, q⟩
      · exact .inl (.inl (w _ _ n' q))
      · exact .inl (.inr ⟨o, w _ _ n' q⟩)
    · exact ⟨a, _, rfl, RpA.ints ns, fun H' _ => q H'⟩
end
theorem s_forL {g : TG} {js : List Nat} (h : E K tl ds ms fun s ms0 => ∃ es, Sw (dd s) es ∧ ∃ Pv : Nat → List SD → List MD → Prop, Pv 0 ds ms0 ∧
      (∀ i e ds1 ms1, es[i]? = some e → Pv i ds1 ms1 → EG K g js (.d e) ds1 ms1 fun ds2 ms2 => S K t ds2 ms2 { P with nx := Pv (i + 1), ct := Pv (i + 1), bk := P.nx }) ∧ ∀ ds1 ms1, Pv es.length ds1 ms1 → P.nx ds1 ms1) :
    S K (tFor (iList K tl) g t) ds ms P := fun L M σ H hS hA D n r b c =>
  h L M σ H hS hA _ fun s v H1 ms0 w o ⟨es, sw, Pv, h0, hs, hd⟩ => by
    have a1 := o.at
    obtain ⟨a, xs, rfl, rx, hx⟩ := sw.is a1 o.sl
    refine ⟨a, rfl, ⟨xs, hx H1 (Wk.refl L H1)⟩, for_list (xs := xs) (fun i σ' H' => ∃ ds' ms', Wk L H1 H' ∧ Sl K L M σ' H' ds' ∧ At L M ms' H' ∧ Pv i ds' ms') ⟨ds, ms0, Wk.refl L H1, hS.mono hA w, a1, h0⟩ (fun i σ' H' _ ⟨_, _, w', _⟩ => hx H' w') (fun i x σ' H' hi ⟨ds', ms', w', s', a', p'⟩ => ?_) (fun σ' H' ⟨ds', ms', w', s', a', p'⟩ => ?_)⟩
    · obtain ⟨e, e1, e2⟩ := rx.get' hi
      refine hs i e ds' ms' e1 p' L M σ' H' x s' a' (Rp.to (a1.wk w') _ _ e2) _ fun σ2 ds2 s2 _ h2 => ?_
      refine h2 L M σ2 H' s2 a' _ (fun σ3 H3 ds3 ms3 w3 s3 a3 p3 => ⟨ds3, ms3, w'.trans w3, s3, a3, p3⟩) (r.on a' (w.trans w')) (n.on (w.trans w')) (fun σ3 H3 ds3 ms3 w3 s3 a3 p3 => ⟨ds3, ms3, w'.trans w3, s3, a3, p3⟩)
    · rw [rx.length] at p'
      exact n σ' H' ds' ms' (w.trans w') s' a' (hd ds' ms' p')
theorem s_forT {g : TG} {js : List Nat} (h : E K tl ds ms fun s ms0 => ∃ es, s = .d (.tuple es) ∧ ∃ Pv : Nat → List SD → List MD → Prop, Pv 0 ds ms0 ∧
      (∀ i e ds1 ms1, es[i]? = some e → Pv i ds1 ms1 → EG K g js (.d e) ds1 ms1 fun ds2 ms2 => S K t ds2 ms2 { P with nx := Pv (i + 1), ct := Pv (i + 1), bk := P.nx }) ∧ ∀ ds1 ms1, Pv es.length ds1 ms1 → P.nx ds1 ms1) :
    S K (tFor (iTup K tl) g t) ds ms P := fun L M σ H hS hA D n r b c =>
  h L M σ H hS hA _ fun s v H1 ms0 w o ⟨es, es', Pv, h0, hs, hd⟩ => by
    subst es'
    obtain ⟨a1, z⟩ := o
    cases z with
    | @tup a xs _ na e rx =>
    have hx : ∀ H', Wk L H1 H' → SqT K H' a xs := fun H' w' => SqT.of (w' a _ (fun z => na (a1.sub a z)) e)
    refine ⟨a, rfl, ⟨xs, hx H1 (Wk.refl L H1)⟩, for_tup (xs := xs) (fun i σ' H' => ∃ ds' ms', Wk L H1 H' ∧ Sl K L M σ' H' ds' ∧ At L M ms' H' ∧ Pv i ds' ms') ⟨ds, ms0, Wk.refl L H1, hS.mono hA w, a1, h0⟩ (fun i σ' H' _ ⟨_, _, w', _⟩ => hx H' w') (fun i x σ' H' hi ⟨ds', ms', w', s', a', p'⟩ => ?_) (fun σ' H' ⟨ds', ms', w', s', a', p'⟩ => ?_)⟩
    · obtain ⟨e, e1, e2⟩ := rx.get' hi
      refine hs i e ds' ms' e1 p' L M σ' H' x s' a' (Rp.to (a1.wk w') _ _ e2) _ fun σ2 ds2 s2 _ h2 => ?_
      refine h2 L M σ2 H' s2 a' _ (fun σ3 H3 ds3 ms3 w3 s3 a3 p3 => ⟨ds3, ms3, w'.trans w3, s3, a3, p3⟩) (r.on a' (w.trans w')) (n.on (w.trans w')) (fun σ3 H3 ds3 ms3 w3 s3 a3 p3 => ⟨ds3, ms3, w'.trans w3, s3, a3, p3⟩)
    · rw [rx.length] at p'
      exact n σ' H' ds' ms' (w.trans w') s' a' (hd ds' ms' p')
theorem s_forR {g : TG} {js : List Nat} (h : EA K tA ds ms fun as ms0 => ∃ n : Int, as = [.d (.int n)] ∧ (-(2 ^ 62) ≤ n ∧ n < 2 ^ 62) ∧ ∃ Pv : Nat → List SD → List MD → Prop, Pv 0 ds ms0 ∧
      (∀ i ds1 ms1, i < n.toNat → Pv i ds1 ms1 → EG K g js (.d (.int i)) ds1 ms1 fun ds2 ms2 => S K t ds2 ms2 { P with nx := Pv (i + 1), ct := Pv (i + 1), bk := P.nx }) ∧ ∀ ds1 ms1, Pv n.toNat ds1 ms1 → P.nx ds1 ms1) :
    S K (tFor (iRng1 tA) g t) ds ms P := fun L M σ H hS hA D n r b c =>
  h L M σ H hS hA _ fun as vs H1 ms0 w a1 o ⟨m, ea, hm, Pv, h0, hs, hd⟩ => by
    subst ea
    obtain ⟨v, t1, rfl, hv, rfl⟩ := o
    cases hv
    refine ⟨m, rfl, hm.1, hm.2, for_range (fun i σ' H' => ∃ ds' ms', Wk L H1 H' ∧ Sl K L M σ' H' ds' ∧ At L M ms' H' ∧ Pv i ds' ms') ⟨ds, ms0, Wk.refl L H1, hS.mono hA w, a1, h0⟩ (fun i σ' H' hi ⟨ds', ms', w', s', a', p'⟩ => ?_) (fun σ' H' ⟨ds', ms', w', s', a', p'⟩ => ?_)⟩
    · refine hs i ds' ms' hi p' L M σ' H' _ s' a' (by show Rp M H' (.int (0 + (i : Int))) (.int i); rw [Int.zero_add]; exact .int _) _ fun σ2 ds2 s2 _ h2 => ?_
      refine h2 L M σ2 H' s2 a' _ (fun σ3 H3 ds3 ms3 w3 s3 a3 p3 => ⟨ds3, ms3, w'.trans w3, s3, a3, p3⟩) (r.on a' (w.trans w')) (n.on (w.trans w')) (fun σ3 H3 ds3 ms3 w3 s3 a3 p3 => ⟨ds3, ms3, w'.trans w3, s3, a3, p3⟩)
    · exact n σ' H' ds' ms' (w.trans w') s' a' (hd ds' ms' p')
theorem s_forR2 {g : TG} {js : List Nat} (h : EA K tA ds ms fun as ms0 => ∃ lo n : Int, as = [.d (.int lo), .d (.int n)] ∧ (-(2 ^ 62) ≤ lo ∧ lo < 2 ^ 62 ∧ -(2 ^ 62) ≤ n ∧ n < 2 ^ 62) ∧ ∃ Pv : Nat → List SD → List MD → Prop, Pv 0 ds ms0 ∧
      (∀ i ds1 ms1, i < (n - lo).toNat → Pv i ds1 ms1 → EG K g js (.d (.int (lo + i))) ds1 ms1 fun ds2 ms2 => S K t ds2 ms2 { P with nx := Pv (i + 1), ct := Pv (i + 1), bk := P.nx }) ∧ ∀ ds1 ms1, Pv (n - lo).toNat ds1 ms1 → P.nx ds1 ms1) :
    S K (tFor (iRng2 tA) g t) ds ms P := fun L M σ H hS hA D n r b c =>
  h L M σ H hS hA _ fun as vs H1 ms0 w a1 o ⟨lo, m, ea, hm, Pv, h0, hs, hd⟩ => by
    subst ea
    obtain ⟨v, t1, rfl, hv, v2, t2, rfl, hv2, rfl⟩ := o
    cases hv; cases hv2
    refine ⟨lo, m, rfl, hm, for_range (lo := lo) (fun i σ' H' => ∃ ds' ms', Wk L H1 H' ∧ Sl K L M σ' H' ds' ∧ At L M ms' H' ∧ Pv i ds' ms') ⟨ds, ms0, Wk.refl L H1, hS.mono hA w, a1, h0⟩ (fun i σ' H' hi ⟨ds', ms', w', s', a', p'⟩ => ?_) (fun σ' H' ⟨ds', ms', w', s', a', p'⟩ => ?_)⟩
    · refine hs i ds' ms' hi p' L M σ' H' _ s' a' (.int _) _ fun σ2 ds2 s2 _ h2 => ?_
      refine h2 L M σ2 H' s2 a' _ (fun σ3 H3 ds3 ms3 w3 s3 a3 p3 => ⟨ds3, ms3, w'.trans w3, s3, a3, p3⟩) (r.on a' (w.trans w')) (n.on (w.trans w')) (fun σ3 H3 ds3 ms3 w3 s3 a3 p3 => ⟨ds3, ms3, w'.trans w3, s3, a3, p3⟩)
    · exact n σ' H' ds' ms' (w.trans w') s' a' (hd ds' ms' p')
theorem s_while (W : Nat → List SD → List MD → Prop) (m0 : Nat) (h0 : W m0 ds ms) (hs : ∀ m ds1 ms1, W m ds1 ms1 → ET K tt ds1 ms1 fun b ms2 => (b = true → S K t ds1 ms2 { P with nx := fun ds3 ms3 => ∃ m', m' < m ∧ W m' ds3 ms3, ct := fun ds3 ms3 => ∃ m', m' < m ∧ W m' ds3 ms3, bk := P.nx }) ∧ (b = false → P.nx ds1 ms2)) :
    S K (tWhile tt t) ds ms P := fun L M σ H hS hA D n r b c => by
  refine ⟨fun m σ' H' => ∃ ds' ms', Wk L H H' ∧ Sl K L M σ' H' ds' ∧ At L M ms' H' ∧ W m ds' ms', ⟨m0, ds, ms, Wk.refl L H, hS, hA, h0⟩, ?_⟩
  rintro m σ' H' ⟨ds', ms', w', s', a', p'⟩
  refine hs m ds' ms' p' L M σ' H' s' a' _ fun k H2 ms2 w2 a2 ⟨k1, k2⟩ => ?_
  cases k with
  | true =>
    rw [if_pos rfl]
    refine ⟨fun σ3 H3 => ∃ m', m' < m ∧ ∃ ds3 ms3, Wk L H H3 ∧ Sl K L M σ3 H3 ds3 ∧ At L M ms3 H3 ∧ W m' ds3 ms3, fun σ3 H3 ⟨m', l, z⟩ => ⟨m', l, z⟩, ?_⟩
    refine k1 rfl L M σ' H2 (s'.mono a' w2) a2 _ (fun σ3 H3 ds3 ms3 w3 s3 a3 ⟨m', l, p3⟩ => ⟨m', l, ds3, ms3, (w'.trans w2).trans w3, s3, a3, p3⟩) (r.on a2 (w'.trans w2)) (n.on (w'.trans w2)) (fun σ3 H3 ds3 ms3 w3 s3 a3 ⟨m', l, p3⟩ => ⟨m', l, ds3, ms3, (w'.trans w2).trans w3, s3, a3, p3⟩)
  | false =>
    rw [if_neg Bool.false_ne_true]
    exact n σ' H2 ds' ms2 (w'.trans w2) (s'.mono a' w2) a2 (k2 rfl)
/-! ### comprehensions -/
def Lt (K : PySem.W.Frag) (g : TG) (js : List Nat) (tt : TT) (te : TE) (vs : List Nat) (ds : List SD) (x : SD) (ms : List MD) (acc : List PyData) (N : List PyData → List MD → Prop) : Prop :=
  EG K g js x (wipeD ds vs) ms fun ds2 ms2 => ET K tt ds2 ms2 fun b ms3 => (b = true → E K te ds2 ms3 fun s ms4 => ∃ d, dd s = .d d ∧ N (acc ++ [d]) ms4) ∧ (b = false → N acc ms3)
section
variable {L M : List Addr} {σ : L2.St} {H1 H' : Hp}
/-- how it stands within a comprehension whose list is at D -/
structure Cs (L M : List Addr) (H1 : Hp) (D : Addr) (i : Nat) (acc : List PyData) (ms : List MD) (H : Hp) : Prop where
  w : Wk L H1 H
  a : At L (M ++ [D]) ms H
  le : acc.length ≤ i
  d : ∃ xs, H D = some (.lst xs) ∧ RpA (M ++ [D]) H xs acc
theorem lock_new {D : Addr} {o : HO} (h : At L M ms H1) (hD : H1 D = none) (ho : NTup o := by trivial) : At L (M ++ [D]) ms (upd H1 D o) := by
  have a := h.new (o := o) hD
  have t : To M (M ++ [D]) H1 (upd H1 D o) := to_new h hD (Wk.new hD)
  refine ⟨a.nd, fun p hp => List.mem_append_left _ (h.sub p hp), fun p hp => ?_, a.ln, fun k p m e1 e2 => ?_⟩
  · rcases List.mem_append.mp hp with z | z
    · exact a.al p z
    · simp at z; subst z; rw [upd_same]; exact ⟨_, rfl, ho⟩
  · exact (h.ok k p m e1 e2).to t (upd_ne (fun z => h.freshL hD (z ▸ List.mem_of_getElem? e1)))
theorem Cs.start {D : Addr} (h : At L M ms H1) (hD : H1 D = none) : Cs L M H1 D 0 [] ms (upd H1 D (.lst [])) := ⟨Wk.new hD, lock_new h hD, Nat.le_refl _, [], upd_same, .nil⟩
theorem Cs.done {D : Addr} {i : Nat} {acc : List PyData} {ms1 : List MD} {H2 : Hp} (h : Cs L M H1 D i acc ms1 H2) (hs : ∀ p ∈ L, p ∈ M) (hD : D ∉ L) : At (L ++ [D]) (M ++ [D]) (ms1 ++ [.l acc]) H2 := by
  obtain ⟨w, a, _, xs, e, r⟩ := h
  refine ⟨List.nodup_append.mpr ⟨a.nd, by simp, fun x hx y hy z => hD (by simp at hy; subst hy z; exact hx)⟩, fun q hq => ?_, a.al, by simp [a.ln], fun k q m e1 e2 => ?_⟩
  · rcases List.mem_append.mp hq with z | z
    · exact a.sub q z
    · exact List.mem_append_right _ z
  · by_cases hk : k < L.length
    · rw [List.getElem?_append_left hk] at e1
      rw [List.getElem?_append_left (by rw [← a.ln]; exact hk)] at e2
      exact (a.ok k q m e1 e2).toL (fun _ _ n e => ⟨n, e⟩) (fun k' q' _ z => by rw [List.getElem?_append_left (List.getElem?_eq_some_iff.mp z).1]; exact z) rfl
    · have hk2 : k = L.length := by
        have := (List.getElem?_eq_some_iff.mp e1).1
        simp at this
        omega
      subst hk2
      simp at e1
      subst e1
      rw [a.ln] at e2
      simp at e2
      subst e2
      exact ⟨xs, e, r⟩
theorem lc_turn {g : TG} {js : List Nat} {vs : List Nat} {D : Addr} {i : Nat} {acc : List PyData} {ms0 ms1 : List MD} {H2 : Hp} {x : SD} {v : V} {Nn : Nat → List PyData → List MD → Prop} (hj : ∀ j ∈ js, j ∈ vs) (hi : i < 10000)
    (hS : Sl K L M σ H1 ds) (a0 : At L M ms0 H1) (hD : H1 D = none) (c : Cs L M H1 D i acc ms1 H2) (ho : SlOk K L M H1 x v) (h : Lt K g js tt te vs ds x ms1 acc (Nn (i + 1))) :
    g v (L2.wipe σ vs) H2 fun σ2 H3 => L2.wipe σ2 vs = L2.wipe σ vs ∧ tt σ2 H3 fun b H4 => if b = true then te σ2 H4 fun y H5 => ∃ ac, H5 D = some (.lst ac) ∧ ac.length < sizeLine ∧ (∃ acc' ms', Cs L M H1 D (i + 1) acc' ms' (upd H5 D (.lst (ac ++ [y]))) ∧ Nn (i + 1) acc' ms') else ∃ acc' ms', Cs L M H1 D (i + 1) acc' ms' H4 ∧ Nn (i + 1) acc' ms' := by
  have t : To M (M ++ [D]) H1 H2 := to_new a0 hD c.w
  have hDL : D ∉ L := a0.freshL hD
  have s2 : Sl K L (M ++ [D]) (L2.wipe σ vs) H2 (wipeD ds vs) := (hS.to t c.w.kd fun _ _ e => e).wipe vs
  refine h L (M ++ [D]) (L2.wipe σ vs) H2 v s2 c.a (ho.to t c.w.kd fun _ _ e => e) _ fun σ2 ds2 sl2 wp h2 => ?_
  have wv : L2.wipe σ2 vs = L2.wipe σ vs := by
    rw [wp vs hj]
    apply List.ext_getElem?
    intro i
    rw [wipe_get, wipe_get, wipe_length]
    by_cases e : i ∈ vs
    · rw [if_pos e, if_pos e]
    · simp only [if_neg e, wipe_get]
  refine ⟨wv, ?_⟩
  refine h2 L (M ++ [D]) σ2 H2 sl2 c.a _ fun b H4 ms4 w4 a4 ⟨k1, k2⟩ => ?_
  obtain ⟨xs, e, r⟩ := c.d
  have e4 : H4 D = some (.lst xs) := w4 D _ hDL e
  have r4 : RpA (M ++ [D]) H4 xs acc := RpA.to (c.a.wk w4) _ _ r
  cases b with
  | false =>
    rw [if_neg Bool.false_ne_true]
    exact ⟨acc, ms4, ⟨c.w.trans w4, a4, Nat.le_succ_of_le c.le, xs, e4, r4⟩, k2 rfl⟩
  | true =>
    rw [if_pos rfl]
    refine k1 rfl L (M ++ [D]) σ2 H4 (sl2.mono c.a w4) a4 _ fun s y H5 ms5 w5 o5 ⟨d, ed, hn⟩ => ?_
    have a5 := o5.at
    have ry := o5.sl
    rw [ed] at ry
    have e5 : H5 D = some (.lst xs) := w5 D _ hDL e4
    have r5 : RpA (M ++ [D]) H5 xs acc := RpA.to (a4.wk w5) _ _ r4
    have hDM : D ∈ M ++ [D] := by simp
    have tt5 : To (M ++ [D]) (M ++ [D]) H5 (upd H5 D (.lst (xs ++ [y]))) := fun a o n q => ⟨n, by rw [upd_ne (fun z : a = D => n (by rw [z]; exact hDM))]; exact q⟩
    refine ⟨xs, e5, by rw [r5.length]; exact Nat.lt_of_le_of_lt c.le (Nat.lt_trans hi (by decide)), acc ++ [d], ms5, ⟨((c.w.trans w4).trans w5).over hD, ⟨a5.nd, a5.sub, fun p hp => ?_, a5.ln, fun k p m e1 e2 => ?_⟩, ?_, xs ++ [y], upd_same, RpA.to tt5 _ _ (r5.append (.cons ry .nil))⟩, hn⟩
    · by_cases z : p = D
      · subst z; rw [upd_same]; exact ⟨_, rfl, trivial⟩
      · rw [upd_ne z]; exact a5.al p hp
    · exact (a5.ok k p m e1 e2).to tt5 (upd_ne (fun z => hDL (z ▸ List.mem_of_getElem? e1)))
    · rw [List.length_append]; have := c.le; simp; exact this
end
theorem e_lcR {g : TG} {js vs : List Nat} (hj : ∀ j ∈ js, j ∈ vs) (h : EA K tA ds ms fun as ms0 => ∃ n : Int, as = [.d (.int n)] ∧ (-(2 ^ 62) ≤ n ∧ n ≤ 10000) ∧ ∃ Pv : Nat → List PyData → List MD → Prop, Pv 0 [] ms0 ∧
      (∀ i acc ms1, i < n.toNat → Pv i acc ms1 → Lt K g js tt te vs ds (.d (.int i)) ms1 acc (Pv (i + 1))) ∧ ∀ acc ms1, Pv n.toNat acc ms1 → R (.f acc) ms1) :
    E K (tLc (iRng1 tA) g tt te vs) ds ms R := fun L M σ H hS hA Q q =>
  h L M σ H hS hA _ fun as us H1 ms0 w a1 o ⟨n, ea, hn, Pv, h0, hs, hd⟩ => by
    subst ea
    obtain ⟨v, t1, rfl, hv, rfl⟩ := o
    cases hv
    refine ⟨n, rfl, hn.1, by have := hn.2; omega, fun D hD => ?_⟩
    have hDL := a1.freshL hD
    refine lc_range (lo := 0) (n := n.toNat) (fun i H' => ∃ acc ms', Cs L M H1 D i acc ms' H' ∧ Pv i acc ms') ⟨[], ms0, .start a1 hD, h0⟩ (fun i H' hi ⟨acc, ms', c, p⟩ => ?_) (fun H' ⟨acc, ms', c, p⟩ => ?_)
    · have e0 : ((0 : Int) + (i : Int)) = (i : Int) := Int.zero_add _
      have := lc_turn (x := .d (.int i)) (v := .int ((0 : Int) + (i : Int))) (Nn := Pv) hj (by have := hn.2; omega) (hS.mono hA w) a1 hD c (by show Rp M H1 (.int (0 + (i : Int))) (.int i); rw [e0]; exact .int _) (hs i acc ms' hi p)
      exact this
    · exact q (.f acc) _ H' ms' (w.trans c.w) ⟨D, rfl, none_back a1 w (a1.fresh hD) hD, a1.fresh hD, c.done a1.sub hDL, a1.sub⟩ (hd acc ms' p)
theorem e_lcL {g : TG} {js vs : List Nat} (hj : ∀ j ∈ js, j ∈ vs) (h : E K tl ds ms fun s ms0 => ∃ es, Sw (dd s) es ∧ es.length ≤ 10000 ∧ ∃ Pv : Nat → List PyData → List MD → Prop, Pv 0 [] ms0 ∧
      (∀ i e acc ms1, es[i]? = some e → Pv i acc ms1 → Lt K g js tt te vs ds (.d e) ms1 acc (Pv (i + 1))) ∧ ∀ acc ms1, Pv es.length acc ms1 → R (.f acc) ms1) :
    E K (tLc (iList K tl) g tt te vs) ds ms R := fun L M σ H hS hA Q q =>
  h L M σ H hS hA _ fun s v H1 ms0 w o ⟨es, sw, hz, Pv, h0, hs, hd⟩ => by
    have a1 := o.at
    obtain ⟨a, xs, rfl, rx, hx⟩ := sw.is a1 o.sl
    refine ⟨a, rfl, ⟨xs, hx H1 (Wk.refl L H1)⟩, fun D hD => ?_⟩
    have hDL := a1.freshL hD
    refine lc_list (xs := xs) (fun i H' => ∃ acc ms', Cs L M H1 D i acc ms' H' ∧ Pv i acc ms') ⟨[], ms0, .start a1 hD, h0⟩ (fun i H' _ ⟨_, _, c, _⟩ => hx H' c.w) (fun i x H' hi ⟨acc, ms', c, p⟩ => ?_) (fun H' ⟨acc, ms', c, p⟩ => ?_)
    · obtain ⟨e, e1, e2⟩ := rx.get' hi
      have hl := (List.getElem?_eq_some_iff.mp e1).1
      exact lc_turn (x := .d e) (v := x) (Nn := Pv) hj (by omega) (hS.mono hA w) a1 hD c e2 (hs i e acc ms' e1 p)
    · rw [rx.length] at p
      exact q (.f acc) _ H' ms' (w.trans c.w) ⟨D, rfl, none_back a1 w (a1.fresh hD) hD, a1.fresh hD, c.done a1.sub hDL, a1.sub⟩ (hd acc ms' p)
theorem e_lcT {g : TG} {js vs : List Nat} (hj : ∀ j ∈ js, j ∈ vs) (h : E K tl ds ms fun s ms0 => ∃ es, s = .d (.tuple es) ∧ es.length ≤ 10000 ∧ ∃ Pv : Nat → List PyData → List MD → Prop, Pv 0 [] ms0 ∧
      (∀ i e acc ms1, es[i]? = some e → Pv i acc ms1 → Lt K g js tt te vs ds (.d e) ms1 acc (Pv (i + 1))) ∧ ∀ acc ms1, Pv es.length acc ms1 → R (.f acc) ms1) :
    E K (tLc (iTup K tl) g tt te vs) ds ms R := fun L M σ H hS hA Q q =>
  h L M σ H hS hA _ fun s v H1 ms0 w o ⟨es, es', hz, Pv, h0, hs, hd⟩ => by
    subst es'
    obtain ⟨a1, z⟩ := o
    cases z with
    | @tup a xs _ na e rx =>
    have hx : ∀ H', Wk L H1 H' → SqT K H' a xs := fun H' w' => SqT.of (w' a _ (fun z => na (a1.sub a z)) e)
    refine ⟨a, rfl, ⟨xs, hx H1 (Wk.refl L H1)⟩, fun D hD => ?_⟩
    have hDL := a1.freshL hD
    refine lc_tup (xs := xs) (fun i H' => ∃ acc ms', Cs L M H1 D i acc ms' H' ∧ Pv i acc ms') ⟨[], ms0, .start a1 hD, h0⟩ (fun i H' _ ⟨_, _, c, _⟩ => hx H' c.w) (fun i x H' hi ⟨acc, ms', c, p⟩ => ?_) (fun H' ⟨acc, ms', c, p⟩ => ?_)
    · obtain ⟨e, e1, e2⟩ := rx.get' hi
      have hl := (List.getElem?_eq_some_iff.mp e1).1
      exact lc_turn (x := .d e) (v := x) (Nn := Pv) hj (by omega) (hS.mono hA w) a1 hD c e2 (hs i e acc ms' e1 p)
    · rw [rx.length] at p
      exact q (.f acc) _ H' ms' (w.trans c.w) ⟨D, rfl, none_back a1 w (a1.fresh hD) hD, a1.fresh hD, c.done a1.sub hDL, a1.sub⟩ (hd acc ms' p)
end
end Hc

namespace Hc
open PySem PySem.Spec PyProof.Rows L2
section
variable {K : PySem.W.Frag} {te ta tb tc tl : TE} {tt : TT} {tA : TA} {ds : List SD} {ms : List MD} {R : RS} {t u : TS} {P : Po}
/-! ### a new thing that may change, until the block's end -/
def frzS (n : Nat) (es : List PyData) : SD → SD
  | .m k => if k = n then .d (.list es) else .m k
  | s => s
def frzR (n : Nat) (es : List PyData) : SD → SD
  | .m k => if k = n then .f es else .m k
  | s => s
def Po.frz (P : Po) (n : Nat) : Po where
  nx := fun ds' ms' => ∃ ms1 es, ms' = ms1 ++ [.l es] ∧ ms1.length = n ∧ P.nx (ds'.map (frzS n es)) ms1
  rt := fun s ms' => ∃ ms1 es, ms' = ms1 ++ [.l es] ∧ ms1.length = n ∧ P.rt (frzR n es s) ms1
  bk := fun ds' ms' => ∃ ms1 es, ms' = ms1 ++ [.l es] ∧ ms1.length = n ∧ P.bk (ds'.map (frzS n es)) ms1
  ct := fun ds' ms' => ∃ ms1 es, ms' = ms1 ++ [.l es] ∧ ms1.length = n ∧ P.ct (ds'.map (frzS n es)) ms1
section
variable {L M : List Addr} {p : Addr} {H H0 H1 : Hp} {ms1 : List MD} {es : List PyData} {N : List SD → List MD → Prop} {C : L2.St → Hp → Prop}
theorem SlOk.frz {s : SD} {v : V} (a : At (L ++ [p]) (M ++ [p]) (ms1 ++ [.l es]) H) (np : p ∉ M) (h : SlOk K (L ++ [p]) (M ++ [p]) H s v) : SlOk K L M H (frzS ms1.length es s) v := by
  have hl : L.length = ms1.length := by have := a.ln; simp at this; exact this
  cases s with
  | u => exact h
  | f _ => exact h
  | g _ => exact h
  | d x => exact Rp.to to_less _ _ h
  | v x => exact h
  | w φ => exact ⟨h.2 _ _ _ _ _ to_less h.1, h.2⟩
  | h φ =>
    obtain ⟨b, e, n, q⟩ := h
    exact ⟨b, e, fun z => n (List.mem_append_left _ z), q⟩
  | s ns =>
    obtain ⟨b, e, ⟨n, q⟩ | q⟩ := h
    · exact ⟨b, e, .inl ⟨fun z => n (List.mem_append_left _ z), q⟩⟩
    · exact ⟨b, e, .inr q⟩
  | q k =>
    obtain ⟨q, rfl, hq, hls⟩ := h
    have hk : k < L.length := by
      have h1 := (List.getElem?_eq_some_iff.mp hq).1
      rw [List.length_append] at h1
      have h2 : k ≠ L.length := fun z => by
        subst z
        simp at hq
        subst hq
        obtain ⟨xs, e1, _⟩ := a.last
        exact hls.notL e1
      have h3 : k < L.length + 1 := h1
      omega
    rw [List.getElem?_append_left hk] at hq
    exact ⟨q, rfl, hq, hls⟩
  | o k =>
    obtain ⟨q, rfl, hq, hls⟩ := h
    have hk : k < L.length := by
      have h1 := (List.getElem?_eq_some_iff.mp hq).1
      rw [List.length_append] at h1
      have h2 : k ≠ L.length := fun z => by
        subst z
        simp at hq
        subst hq
        obtain ⟨xs, e1, _⟩ := a.last
        exact hls.notL e1
      have h3 : k < L.length + 1 := h1
      omega
    rw [List.getElem?_append_left hk] at hq
    exact ⟨q, rfl, hq, hls⟩
  | m k =>
    obtain ⟨q, rfl, hq, hls⟩ := h
    show SlOk K L M H (if k = ms1.length then .d (.list es) else .m k) _
    by_cases hk : k = ms1.length
    · rw [if_pos hk]
      subst hk
      rw [← hl] at hq
      simp at hq
      subst hq
      obtain ⟨xs, e1, r⟩ := a.last
      exact .lst np e1 (RpA.to to_less _ _ r)
    · rw [if_neg hk]
      have : k < L.length := by
        have := (List.getElem?_eq_some_iff.mp hq).1
        simp at this
        omega
      rw [List.getElem?_append_left this] at hq
      exact ⟨q, rfl, hq, hls⟩
theorem Sl.frz {σ : L2.St} (a : At (L ++ [p]) (M ++ [p]) (ms1 ++ [.l es]) H) (np : p ∉ M) (h : Sl K (L ++ [p]) (M ++ [p]) σ H ds) : Sl K L M σ H (ds.map (frzS ms1.length es)) := fun i s e => by
  rw [List.getElem?_map] at e
  cases q : ds[i]? with
  | none => rw [q] at e; cases e
  | some s0 =>
    rw [q] at e
    have e' : frzS ms1.length es s0 = s := Option.some.inj e
    by_cases hu : s0 = .u
    · subst hu
      subst e'
      exact h i .u q
    · obtain ⟨v, e1, e2⟩ := h.get q hu
      have z := e2.frz a np
      rw [e'] at z
      cases s with
      | u => exact z.elim
      | f _ => exact z.elim
      | g _ => exact z.elim
      | d x => exact ⟨v, e1, z⟩
      | m k => exact ⟨v, e1, z⟩
      | q k => exact ⟨v, e1, z⟩
      | s ns => exact ⟨v, e1, z⟩
      | v x => exact ⟨v, e1, z⟩
      | h φ => exact ⟨v, e1, z⟩
      | w φ => exact ⟨v, e1, z⟩
      | o k => exact ⟨v, e1, z⟩
def plainM : MD → Bool
  | .r _ => false
  | _ => true
theorem MOk.plain {L L' M M' : List Addr} {H : Hp} {j j' : Nat} {p : Addr} {m : MD} (hm : plainM m = true) (t : To M M' H H) (h : MOk L M H j p m) : MOk L' M' H j' p m := by
  cases m with
  | l es =>
    obtain ⟨xs, e1, r⟩ := h
    exact ⟨xs, e1, RpA.to t _ _ r⟩
  | r ks => cases hm
  | k ds =>
    obtain ⟨kvs, e1, r⟩ := h
    exact ⟨kvs, e1, r.toP t⟩
  | t ds =>
    obtain ⟨kvs, e1, r⟩ := h
    exact ⟨kvs, e1, r.toP t⟩
  | z o kvs ds =>
    obtain ⟨e1, r⟩ := h
    exact ⟨e1, r.toP t⟩
  | x ψ => exact ⟨h.2 _ _ _ _ _ t rfl h.1, h.2⟩
theorem At.dropMid {q : Addr} {m1 m2 : MD} (hm : plainM m2 = true) (a : At (L ++ [p] ++ [q]) (M ++ [p] ++ [q]) (ms1 ++ [m1] ++ [m2]) H) (sb : ∀ x ∈ L, x ∈ M) : At (L ++ [q]) (M ++ [q]) (ms1 ++ [m2]) H := by
  have hl : L.length = ms1.length := by have := a.ln; simp at this; exact this
  have t : To (M ++ [p] ++ [q]) (M ++ [q]) H H := fun b o n e => ⟨fun z => n (by
    rcases List.mem_append.mp z with z | z
    · exact List.mem_append_left _ (List.mem_append_left _ z)
    · exact List.mem_append_right _ z), e⟩
  have nd := a.nd
  refine ⟨?_, ?_, ?_, by simp [hl], fun k x m e1 e2 => ?_⟩
  · rw [List.append_assoc] at nd
    obtain ⟨n1, n2, n3⟩ := List.nodup_append.mp nd
    exact List.nodup_append.mpr ⟨n1, by simp, fun x hx y hy => n3 x hx y (by simp at hy ⊢; exact Or.inr hy)⟩
  · intro x hx
    rcases List.mem_append.mp hx with z | z
    · exact List.mem_append_left _ (sb x z)
    · exact List.mem_append_right _ z
  · intro x hx
    refine a.al x ?_
    rcases List.mem_append.mp hx with z | z
    · exact List.mem_append_left _ (List.mem_append_left _ z)
    · exact List.mem_append_right _ z
  · by_cases hk : k < L.length
    · rw [List.getElem?_append_left hk] at e1
      rw [List.getElem?_append_left (by rw [← hl]; exact hk)] at e2
      refine (a.ok k x m ?_ ?_).toL t (fun k' q' hlt z => by rw [List.append_assoc, List.getElem?_append_left (by omega)] at z; rw [List.getElem?_append_left (by omega)]; exact z) rfl
      · rw [List.append_assoc, List.getElem?_append_left hk]; exact e1
      · rw [List.append_assoc, List.getElem?_append_left (by rw [← hl]; exact hk)]; exact e2
    · have hk2 : k = L.length := by
        have := (List.getElem?_eq_some_iff.mp e1).1
        simp at this
        omega
      subst hk2
      have ex : q = x := by simpa using e1
      subst ex
      rw [hl] at e2
      have em : m2 = m := by simpa using e2
      subst em
      refine MOk.plain hm t (a.ok (L.length + 1) q m2 ?_ ?_)
      · rw [List.getElem?_append_right (by simp)]; simp
      · rw [List.getElem?_append_right (by simp [hl])]; simp [hl]
theorem Out.frz {v : V} {s : SD} (hp0 : H0 p = none) (a : At (L ++ [p]) (M ++ [p]) (ms1 ++ [.l es]) H) (w0 : ∀ q, q ∉ M → q ≠ p → H1 q = none → H0 q = none) (np : p ∉ M) (sb : ∀ x ∈ L, x ∈ M) (h : Out K (L ++ [p]) (M ++ [p]) H1 H (ms1 ++ [.l es]) v s) : Out K L M H0 H ms1 v (frzR ms1.length es s) := by
  have ad := a.drop sb
  cases s with
  | u => exact h.2.elim
  | d x => exact ⟨ad, Rp.to to_less _ _ h.2⟩
  | s ns => exact ⟨ad, SlOk.frz (s := .s ns) a np h.2⟩
  | v x => exact ⟨ad, h.2⟩
  | h φ => exact ⟨ad, SlOk.frz (s := .h φ) a np h.2⟩
  | w φ => exact ⟨ad, SlOk.frz (s := .w φ) a np h.2⟩
  | f fs =>
    obtain ⟨q, rfl, hq, nq, aq, _⟩ := h
    have nqM : q ∉ M := fun z => nq (List.mem_append_left _ z)
    have nqp : q ≠ p := fun z => nq (List.mem_append_right _ (by simp [z]))
    exact ⟨q, rfl, w0 q nqM nqp hq, nqM, At.dropMid rfl aq sb, sb⟩
  | g fs =>
    obtain ⟨q, rfl, hq, nq, aq, _⟩ := h
    have nqM : q ∉ M := fun z => nq (List.mem_append_left _ z)
    have nqp : q ≠ p := fun z => nq (List.mem_append_right _ (by simp [z]))
    exact ⟨q, rfl, w0 q nqM nqp hq, nqM, At.dropMid rfl aq sb, sb⟩
  | q k => exact ⟨ad, SlOk.frz (s := .q k) a np h.2⟩
  | o k => exact ⟨ad, SlOk.frz (s := .o k) a np h.2⟩
  | m k =>
    have hl : L.length = ms1.length := by have := a.ln; simp at this; exact this
    obtain ⟨_, q, rfl, hq, hls⟩ := h
    show Out K L M H0 H ms1 _ (if k = ms1.length then .f es else .m k)
    by_cases hk : k = ms1.length
    · rw [if_pos hk]
      subst hk
      rw [← hl] at hq
      simp at hq
      subst hq
      exact ⟨p, rfl, hp0, np, a, sb⟩
    · rw [if_neg hk]
      have : k < L.length := by
        have := (List.getElem?_eq_some_iff.mp hq).1
        simp at this
        omega
      rw [List.getElem?_append_left this] at hq
      exact ⟨ad, q, rfl, hq, hls⟩
end
theorem s_new {i : Nat} (h : E K te ds ms fun s ms1 => ∃ es, s = .f es ∧ S K u (ds.set i (.m ms1.length)) (ms1 ++ [.l es]) (P.frz ms1.length)) : S K (tSeq (tAsg te (gName i)) u) ds ms P := fun L M σ H hS hA D n r b c =>
  h L M σ H hS hA _ fun s v H1 ms1 w o ⟨es, e, h1⟩ => by
    subst e
    obtain ⟨p, rfl, hp, np, a1, sb⟩ := o
    have hl : L.length = ms1.length := by have := a1.ln; simp at this; exact this
    have npL : p ∉ L := fun z => np (hA.sub p z)
    have t : To M (M ++ [p]) H H1 := to_new hA hp w
    have hS1 : Sl K (L ++ [p]) (M ++ [p]) (σ.set i (some (.ref p))) H1 (ds.set i (.m ms1.length)) := by
      refine (hS.to t w.kd fun k q e => ?_).set i ⟨p, rfl, by rw [← hl]; simp, let ⟨xs, e, _⟩ := a1.last; ⟨xs, e⟩⟩
      rw [List.getElem?_append_left (List.getElem?_eq_some_iff.mp e).1]
      exact e
    have wk : ∀ {H2 : Hp}, Wk (L ++ [p]) H1 H2 → Wk L H H2 := fun {H2} w2 => ⟨fun x y nx ex => w2 x y (fun z => (List.mem_append.mp z).elim nx fun z => ne_of_none ex hp (by simpa using z)) (w x y nx ex), fun x y ex => by
      obtain ⟨o1, f1, k1⟩ := w.kd x y ex
      obtain ⟨o2, f2, k2⟩ := w2.kd x o1 f1
      exact ⟨o2, f2, k2.trans k1⟩⟩
    have go : ∀ {N : List SD → List MD → Prop} {C : L2.St → Hp → Prop}, Nx K L M H N C → Nx K (L ++ [p]) (M ++ [p]) H1 (fun ds' ms' => ∃ ms1' es, ms' = ms1' ++ [.l es] ∧ ms1'.length = ms1.length ∧ N (ds'.map (frzS ms1.length es)) ms1') C := by
      intro N C nn σ2 H2 ds2 ms2 w2 s2 a2 ⟨ms3, es3, e3, l3, n3⟩
      subst e3
      rw [← l3] at n3
      exact nn σ2 H2 _ ms3 (wk w2) (s2.frz a2 np) (a2.drop sb) n3
    refine h1 (L ++ [p]) (M ++ [p]) _ H1 hS1 a1 D (go n) ?_ (go b) (go c)
    intro s2 v2 H2 ms2 w2 o2 ⟨ms3, es3, e3, l3, n3⟩
    subst e3
    rw [← l3] at n3
    refine r _ v2 H2 ms3 (wk w2) ?_ n3
    refine Out.frz hp o2.at (fun q hq hqp hq1 => ?_) np sb o2
    cases e : H q with
    | none => rfl
    | some oo => rw [w q oo (fun z => hq (hA.sub q z)) e] at hq1; cases hq1
/-! ### a whole def -/
theorem SlsOk.len {L M : List Addr} {H : Hp} : ∀ {as : List SD} {vs : List V}, SlsOk K L M H as vs → as.length = vs.length
  | [], _, h => by cases h; rfl
  | s :: r, _, ⟨v, t, e, a, b⟩ => by subst e; simp [SlsOk.len b]
theorem SlsOk.get {L M : List Addr} {H : Hp} : ∀ {as : List SD} {vs : List V} {i : Nat} {s : SD}, SlsOk K L M H as vs → as[i]? = some s → ∃ v, vs[i]? = some v ∧ SlOk K L M H s v
  | [], _, _, _, h, e => by simp at e
  | s :: r, _, 0, _, ⟨v, t, e, a, b⟩, e2 => by subst e; simp at e2; subst e2; exact ⟨v, rfl, a⟩
  | s :: r, _, i + 1, x, ⟨v, t, e, a, b⟩, e2 => by
    subst e
    obtain ⟨v2, e3, e4⟩ := SlsOk.get (i := i) (s := x) b (by simpa using e2)
    exact ⟨v2, by simpa using e3, e4⟩
theorem Sl.start {L M : List Addr} {H : Hp} {N : List Str} {as : List SD} {vs : List V} (h : SlsOk K L M H as vs) (hn : as.length ≤ N.length) : Sl K L M (start N vs) H (as ++ List.replicate (N.length - as.length) .u) := fun i s e => by
  have hl := h.len
  by_cases hi : i < as.length
  · rw [List.getElem?_append_left hi] at e
    obtain ⟨v, e1, e2⟩ := h.get e
    have e3 : (L2.start N vs)[i]? = some (some v) := by
      unfold L2.start
      rw [List.getElem?_append_left (by simp [← hl]; exact hi), List.getElem?_map, e1]
      rfl
    cases s with
    | u => exact e2.elim
    | f _ => exact e2.elim
    | g _ => exact e2.elim
    | d x => exact ⟨v, e3, e2⟩
    | m k => exact ⟨v, e3, e2⟩
    | q k => exact ⟨v, e3, e2⟩
    | s ns => exact ⟨v, e3, e2⟩
    | v x => exact ⟨v, e3, e2⟩
    | h φ => exact ⟨v, e3, e2⟩
    | w φ => exact ⟨v, e3, e2⟩
    | o k => exact ⟨v, e3, e2⟩
  · rw [List.getElem?_append_right (by omega)] at e
    have hs : s = .u := by
      have := List.mem_of_getElem? e
      exact (List.mem_replicate.mp this).2
    subst hs
    show i < (L2.start N vs).length
    have := (List.getElem?_eq_some_iff.mp e).1
    unfold L2.start
    simp at this ⊢
    omega
def fin (R : RS) : Po where
  nx := fun _ ms' => R (.d .none) ms'
  rt := R
  bk := fun _ _ => False
  ct := fun _ _ => False
theorem read_of {N : List Str} {Φ : Ph} {vs : List V} {H : Hp} {Q : VK} {X : XK} (hn : ∀ as ms R, Φ as ms R → as.length ≤ N.length) (h : ∀ as ms R, Φ as ms R → S K t (as ++ List.replicate (N.length - as.length) .u) ms (fin R)) (hs : SpD K Φ vs H Q X) :
    t { nx := fun _ H' => Q .non H', rt := Q } (start N vs) H := by
  obtain ⟨L, M, ms, as, R, hA, ho, hp, q⟩ := hs
  exact h as ms R hp L M _ H (Sl.start ho (hn _ _ _ hp)) hA _ (fun σ' H' ds' ms' w s a r => q (.d .none) .non H' ms' w ⟨a, .non⟩ r) (fun s v H' ms' w o r => q s v H' ms' w o r) (fun _ _ _ _ _ _ _ z => z.elim) (fun _ _ _ _ _ _ _ z => z.elim)
end
section
variable {Pg : Program} {w : World} {K : PySem.W.Frag} {mg : Str → Option Value} {base : Heap}
/-- a def that keeps Φ -/
theorem ok_of {x qual : Str} {st : Stmt} {f : Addr} {fd : FuncData} {N ps : List Str} {k : Nat} {Φ : Ph} (F : Fun K x qual st f fd) (Sc : FnScope N ps (defScope st)) (hl : ∀ as ms R, Φ as ms R → as.length = ps.length) (hpn : ps.length ≤ N.length)
    (hbody : ∀ (cdv : Value) (A : Around) (outer : List Env) (s : Shared) (H : Hp) (E : XK), Room k (A.deeper (envOfC qual (defScope st) s.heap.objs.size f cdv)) →
      ∃ t, PSs (cxOf CX0 Pg w K mg base N qual (defScope st) f cdv A outer s H E).nox (defBody st) t ∧ ∀ as ms R, Φ as ms R → S K t (as ++ List.replicate (N.length - as.length) .u) ms (fin R)) : FnOk Pg w K mg base CX0 (k + 1) f fd ps (SpD K Φ) := by
  refine F.ok Sc (fun vs H Q E h => ?_) (fun cdv A outer s H vs Q E hr h => ?_)
  · obtain ⟨L, M, ms, as, R, hA, ho, hp, q⟩ := h
    rw [← ho.len]
    exact hl as ms R hp
  · obtain ⟨t, h1, h2⟩ := hbody cdv A outer s H E hr
    exact ⟨t, h1, read_of (fun as ms R z => by rw [hl as ms R z]; exact hpn) h2 h⟩
end
end Hc

namespace Hc
open PySem PySem.Spec PyProof.Rows L2
abbrev rAddI : R2 := rI0 fun i j => .int (i + j)
abbrev rSubI : R2 := rI0 fun i j => .int (i - j)
abbrev rMulI : R2 := rI CMul fun i j => .int (i * j)
abbrev rModN : R2 := rI (fun _ j => j ≠ 0) fun i j => .int (i.fmod j)
abbrev rPowI : R2 := rI CPow fun i j => .int (i ^ j.toNat)
abbrev rXorI : R2 := rI0 fun i j => .int (Builtin.bitXor i j)
abbrev rLtI : R2 := rI0 fun i j => .bl (decide (i < j))
abbrev rLeI : R2 := rI0 fun i j => .bl (decide (i ≤ j))
abbrev rGtI : R2 := rI0 fun i j => .bl (decide (j < i))
abbrev rGeI : R2 := rI0 fun i j => .bl (decide (j ≤ i))
abbrev rNegI : V → Hp → VK → Prop := rU fun i => .int (-i)
abbrev rIsNn : R2 := fun x y H Q => y = .non ∧ Q (.bl (decide (x = .non))) H
abbrev rNotNn : R2 := fun x y H Q => y = .non ∧ Q (.bl (!decide (x = .non))) H
abbrev rAbs : List V → Hp → VK → Prop := fun xs H Q => ∃ i, xs = [.int i] ∧ Q (.int (if i < 0 then -i else i)) H
abbrev rMaxI : List V → Hp → VK → Prop := fun xs H Q => ∃ i j, xs = [.int i, .int j] ∧ Q (.int (if j > i then j else i)) H
abbrev rMinI : List V → Hp → VK → Prop := fun xs H Q => ∃ i j, xs = [.int i, .int j] ∧ Q (.int (if j < i then j else i)) H
abbrev rLenQ (K : PySem.W.Frag) : List V → Hp → VK → Prop := fun xs H Q => ∃ p ys, xs = [.ref p] ∧ (SqL K H p ys ∨ SqT K H p ys) ∧ Q (.int ys.length) H
abbrev rTupQ (K : PySem.W.Frag) : List V → Hp → VK → Prop := fun xs H Q => ∃ p ys, xs = [.ref p] ∧ ((SqL K H p ys ∧ ∀ l, H l = none → Q (.ref l) (upd H l (.tup ys))) ∨ (SqT K H p ys ∧ Q (.ref p) H))
abbrev rListQ (K : PySem.W.Frag) : List V → Hp → VK → Prop := fun xs H Q => ∃ p ys, xs = [.ref p] ∧ (SqL K H p ys ∨ SqT K H p ys) ∧ ∀ l, H l = none → Q (.ref l) (upd H l (.lst ys))
/-- sizes -/
@[irreducible] def Bd (n : Nat) (i : Int) : Prop := i.natAbs < 2 ^ n
def CMulX (i j : Int) : Prop := Bd 100000 i ∧ Bd 100000 j
def CDivX (_ j : Int) : Prop := j ≠ 0 ∧ Bd 8000 j
abbrev rMulX : R2 := rI CMulX fun i j => .int (i * j)
abbrev rDivX : R2 := rI CDivX fun i j => .int (i.fdiv j)
theorem Bd.iff {n : Nat} {i : Int} : Bd n i ↔ i.natAbs < 2 ^ n := by unfold Bd; exact Iff.rfl
theorem Bd.mono {m n : Nat} {i : Int} (h : Bd m i) (l : m ≤ n) : Bd n i := Bd.iff.mpr (Nat.lt_of_lt_of_le (Bd.iff.mp h) (Nat.pow_le_pow_right (by decide) l))
theorem Bd.mul {m n : Nat} {i j : Int} (a : Bd m i) (b : Bd n j) : Bd (m + n) (i * j) := Bd.iff.mpr (wide_lt (Bd.iff.mp a) (Bd.iff.mp b))
theorem Bd.add {m : Nat} {i j : Int} (a : Bd m i) (b : Bd m j) : Bd (m + 1) (i + j) := by
  have ha := Bd.iff.mp a
  have hb := Bd.iff.mp b
  refine Bd.iff.mpr ?_
  rw [Nat.pow_succ]
  have := Int.natAbs_add_le i j
  omega
theorem Bd.neg {m : Nat} {i : Int} (a : Bd m i) : Bd m (-i) := Bd.iff.mpr (by rw [Int.natAbs_neg]; exact Bd.iff.mp a)
theorem Bd.sub {m : Nat} {i j : Int} (a : Bd m i) (b : Bd m j) : Bd (m + 1) (i - j) := by
  rw [Int.sub_eq_add_neg]
  exact a.add b.neg
theorem Bd.le {m : Nat} {i j : Int} (a : Bd m j) (h : i.natAbs ≤ j.natAbs) : Bd m i := Bd.iff.mpr (Nat.lt_of_le_of_lt h (Bd.iff.mp a))
theorem Bd.of {n : Nat} {i : Int} (h : i.natAbs < 2 ^ n) : Bd n i := Bd.iff.mpr h
section
variable {X : Cx}
theorem op_mulX : OpR X (binaryOp .Mult) rMulX := opI fun _ _ _ _ _ _ _ hc q => mul_int q (CMulW.ok (wide_mul (Bd.iff.mp hc.1) (Bd.iff.mp hc.2) (by decide) (by decide) (by decide)))
theorem op_fdivX : OpR X (binaryOp .FloorDiv) rDivX := opI fun i j _ _ _ _ _ hc q => floordiv_int hc.1 q (.inl (PyProof.noPylong_of_log2 (Nat.lt_trans (PySem.Flt.log2_lt_of (by decide) (Bd.iff.mp hc.2)) (by decide))))
end
section
variable {K : PySem.W.Frag} {te ta tb tc tl : TE} {tt : TT} {tA : TA} {ds : List SD} {ms : List MD} {R : RS} {t u : TS} {P : Po}
theorem rr_ix {a b : SD} (h : ∃ es i d, (Sv ms a (.list es) ∨ Sv ms a (.tuple es)) ∧ b = .d (.int i) ∧ atI es i = some d ∧ R (.d d) ms) : RR K (rIx K) a b ms R := fun L M H x y hA ha hb Q q => by
  obtain ⟨es, i, d, sa | sa, e1, e2, r⟩ := h
  · exact .inl (rr_ixL ⟨es, i, d, sa, e1, e2, r⟩ L M H x y hA ha hb Q q)
  · exact .inr (.inl (rr_ixT ⟨es, i, d, sa, e1, e2, r⟩ L M H x y hA ha hb Q q))
end
/-! ### defs by name -/
structure Kn (Pg : Program) (w : World) (K : PySem.W.Frag) (mg : Str → Option Value) (base : Heap) (x : Str) (lv : Nat) (ps : List Str) (Φ : Ph) : Prop where
  ex : ∃ f fd, FnOk Pg w K mg base CX0 lv f fd ps (SpD K Φ) ∧ mg x = some (.ref f) ∧ PySem.W.keepIn K (.ref f) = true ∧ Binds K fd ps []
theorem pe_callD {X : Cx} {x : Str} {lv : Nat} {ps : List Str} {Φ : Ph} {e : Expr} {es : List Expr} {t : TA} {p pos : Pos} (h : Kn X.prog X.w X.K X.mg X.base x lv ps Φ) (hr : Room lv X.A) (hg : Gl X x) (ha : PA X (e :: es) t)
    (hdb : (x == ("__debug__" : Str)) = false := by decide) (he : starEach (e :: es) X.env = (false, eval e X.env) :: starEach es X.env := by rfl) (hpl : (backTo pos (starEach es X.env)).any (·.1) = false := by rfl) :
    PE X (.Call (.Name x p) (e :: es) [] pos) (tCall (SpD X.K Φ) [] E0 t) := by
  obtain ⟨f, fd, G, m, k, b⟩ := h.ex
  exact pe_call G hr hg m k b .nil pass0 ha hdb he hpl
def ph1 (f : SD → List MD → RS → Prop) : Ph := fun as ms R => ∃ a, as = [a] ∧ f a ms R
def ph2 (f : SD → SD → List MD → RS → Prop) : Ph := fun as ms R => ∃ a b, as = [a, b] ∧ f a b ms R
def ph3 (f : SD → SD → SD → List MD → RS → Prop) : Ph := fun as ms R => ∃ a b c, as = [a, b, c] ∧ f a b c ms R
def ph4 (f : SD → SD → SD → SD → List MD → RS → Prop) : Ph := fun as ms R => ∃ a b c d, as = [a, b, c, d] ∧ f a b c d ms R
theorem ph1_len {f : SD → List MD → RS → Prop} : ∀ as ms R, ph1 f as ms R → as.length = 1 := fun _ _ _ ⟨_, e, _⟩ => by rw [e]; rfl
theorem ph2_len {f : SD → SD → List MD → RS → Prop} : ∀ as ms R, ph2 f as ms R → as.length = 2 := fun _ _ _ ⟨_, _, e, _⟩ => by rw [e]; rfl
theorem ph3_len {f : SD → SD → SD → List MD → RS → Prop} : ∀ as ms R, ph3 f as ms R → as.length = 3 := fun _ _ _ ⟨_, _, _, e, _⟩ => by rw [e]; rfl
theorem ph4_len {f : SD → SD → SD → SD → List MD → RS → Prop} : ∀ as ms R, ph4 f as ms R → as.length = 4 := fun _ _ _ ⟨_, _, _, _, e, _⟩ => by rw [e]; rfl
/-- the script at the law's door -/
theorem at_door {K : PySem.W.Frag} {H : Hp} {a : Addr} {ns : List Int} (hO : Only H) (hS : SqL K H a (ns.map V.int)) : SlOk K [] [] H (.s ns) (.ref a) := by
  refine ⟨a, rfl, ?_⟩
  rcases hS with h | h
  · exact .inl ⟨by simp, h⟩
  · exact .inr fun H' => .inr h
theorem at_nil {H : Hp} : At [] [] [] H := ⟨List.nodup_nil, fun _ h => by simp at h, fun _ h => by simp at h, rfl, fun _ _ _ h => by simp at h⟩
end Hc

namespace Hc
open PySem PySem.Spec PyProof.Rows L2
theorem instInt (d : PyData) : kitB (tyN d) "int" = some (inst d "int") := by
  have h : ∀ n : String, n ∈ ["NoneType", "bool", "int", "str", "list", "tuple", "dict"] → kitB n "int" = some ((kitB n "int").getD false) := by decide +kernel
  cases d <;> exact h _ (by simp [tyN])
theorem instBool (d : PyData) : kitB (tyN d) "bool" = some (inst d "bool") := by
  have h : ∀ n : String, n ∈ ["NoneType", "bool", "int", "str", "list", "tuple", "dict"] → kitB n "bool" = some ((kitB n "bool").getD false) := by decide +kernel
  cases d <;> exact h _ (by simp [tyN])
theorem instTuple (d : PyData) : kitB (tyN d) "tuple" = some (inst d "tuple") := by
  have h : ∀ n : String, n ∈ ["NoneType", "bool", "int", "str", "list", "tuple", "dict"] → kitB n "tuple" = some ((kitB n "tuple").getD false) := by decide +kernel
  cases d <;> exact h _ (by simp [tyN])
theorem instList (d : PyData) : kitB (tyN d) "list" = some (inst d "list") := by
  have h : ∀ n : String, n ∈ ["NoneType", "bool", "int", "str", "list", "tuple", "dict"] → kitB n "list" = some ((kitB n "list").getD false) := by decide +kernel
  cases d <;> exact h _ (by simp [tyN])
def isWhole : PyData → Bool
  | .int _ => true
  | _ => false
def isTup : PyData → Bool
  | .tuple _ => true
  | _ => false
def isLst : PyData → Bool
  | .list _ => true
  | _ => false
def isRow : PyData → Bool
  | .list _ => true
  | .tuple _ => true
  | _ => false
theorem inst_tup (x : PyData) : inst x "tuple" = isTup x := by
  cases x with
  | none => exact (by decide +kernel : inst .none "tuple" = false)
  | bool b => exact (by decide +kernel : inst (.bool true) "tuple" = false)
  | int i => exact (by decide +kernel : inst (.int 0) "tuple" = false)
  | str s => exact (by decide +kernel : inst (.str "") "tuple" = false)
  | list s => exact (by decide +kernel : inst (.list []) "tuple" = false)
  | tuple s => exact (by decide +kernel : inst (.tuple []) "tuple" = true)
  | dict s => exact (by decide +kernel : inst (.dict []) "tuple" = false)
theorem inst_lst (x : PyData) : inst x "list" = isLst x := by
  cases x with
  | none => exact (by decide +kernel : inst .none "list" = false)
  | bool b => exact (by decide +kernel : inst (.bool true) "list" = false)
  | int i => exact (by decide +kernel : inst (.int 0) "list" = false)
  | str s => exact (by decide +kernel : inst (.str "") "list" = false)
  | list s => exact (by decide +kernel : inst (.list []) "list" = true)
  | tuple s => exact (by decide +kernel : inst (.tuple []) "list" = false)
  | dict s => exact (by decide +kernel : inst (.dict []) "list" = false)
theorem inst_row (x : PyData) : (inst x "list" || inst x "tuple") = isRow x := by rw [inst_lst, inst_tup]; cases x <;> rfl
theorem whole_and (x : PyData) : (inst x "int" && !inst x "bool") = isWhole x := by
  cases x with
  | none => exact (by decide +kernel : (inst .none "int" && !inst .none "bool") = false)
  | bool b => exact (by decide +kernel : (inst (.bool true) "int" && !inst (.bool true) "bool") = false)
  | int i => exact (by decide +kernel : (inst (.int 0) "int" && !inst (.int 0) "bool") = true)
  | str s => exact (by decide +kernel : (inst (.str "") "int" && !inst (.str "") "bool") = false)
  | list s => exact (by decide +kernel : (inst (.list []) "int" && !inst (.list []) "bool") = false)
  | tuple s => exact (by decide +kernel : (inst (.tuple []) "int" && !inst (.tuple []) "bool") = false)
  | dict s => exact (by decide +kernel : (inst (.dict []) "int" && !inst (.dict []) "bool") = false)
theorem whole_inv {x : PyData} (h : isWhole x = true) : ∃ i, x = .int i := by
  cases x with
  | int i => exact ⟨i, rfl⟩
  | _ => cases h
theorem tup_inv {x : PyData} (h : isTup x = true) : ∃ i, x = .tuple i := by
  cases x with
  | tuple i => exact ⟨i, rfl⟩
  | _ => cases h
/-! ### numbers -/
theorem abs_nat (i : Int) : (if i < 0 then -i else i) = (i.natAbs : Int) := by split <;> omega
theorem fmod_nat (x y : Nat) : Int.fmod (x : Int) (y : Int) = ((x % y : Nat) : Int) := by
  rw [Int.fmod_eq_emod_of_nonneg _ (by omega)]
  rfl
theorem gcd_step (x y : Nat) : Nat.gcd y (x % y) = Nat.gcd x y := by
  rw [Nat.gcd_comm y (x % y), ← Nat.gcd_rec, Nat.gcd_comm]
abbrev pr (p : Int × Int) : PyData := .tuple [.int p.1, .int p.2]
/-- the fraction of two ints -/
def fr (i j : Int) : Int × Int := if j < 0 then (i.fdiv (-(Int.gcd i j : Int)), j.fdiv (-(Int.gcd i j : Int))) else (i.fdiv (Int.gcd i j), j.fdiv (Int.gcd i j))
theorem fr_is {i j : Int} (hj : j ≠ 0) : ∃ c : Int, c ≠ 0 ∧ (0 < c ↔ 0 < j) ∧ c.natAbs = Int.gcd i j ∧ i = (fr i j).1 * c ∧ j = (fr i j).2 * c := by
  have hg : 0 < Int.gcd i j := Int.gcd_pos_of_ne_zero_right i hj
  have d1 : (Int.gcd i j : Int) ∣ i := Int.gcd_dvd_left ..
  have d2 : (Int.gcd i j : Int) ∣ j := Int.gcd_dvd_right ..
  unfold fr
  by_cases h : j < 0
  · rw [if_pos h]
    refine ⟨-(Int.gcd i j : Int), by omega, by omega, by omega, ?_, ?_⟩
    · exact (Int.fdiv_mul_cancel (Int.neg_dvd.mpr d1)).symm
    · exact (Int.fdiv_mul_cancel (Int.neg_dvd.mpr d2)).symm
  · rw [if_neg h]
    refine ⟨(Int.gcd i j : Int), by omega, by omega, by omega, ?_, ?_⟩
    · exact (Int.fdiv_mul_cancel d1).symm
    · exact (Int.fdiv_mul_cancel d2).symm
theorem fr_pos {i j : Int} (hj : j ≠ 0) : 0 < (fr i j).2 := by
  obtain ⟨c, c0, cs, _, _, e⟩ := fr_is (i := i) hj
  by_cases h : 0 < j
  · have hc := cs.mpr h
    rw [e] at h
    exact Int.pos_of_mul_pos_left h hc
  · have hc : c < 0 := by
      have : ¬ 0 < c := fun z => h (cs.mp z)
      omega
    have hn : (fr i j).2 * c < 0 := by rw [← e]; omega
    exact Int.pos_of_mul_neg_left hn hc
theorem fr_low {i j : Int} (hj : j ≠ 0) : Int.gcd (fr i j).1 (fr i j).2 = 1 := by
  obtain ⟨c, c0, cs, cg, e1, e2⟩ := fr_is (i := i) hj
  have h : Int.gcd i j = Int.gcd (fr i j).1 (fr i j).2 * c.natAbs := by
    have := Int.gcd_mul_right (fr i j).1 c (fr i j).2
    rw [← e1, ← e2] at this
    exact this
  have hg : 0 < Int.gcd i j := Int.gcd_pos_of_ne_zero_right i hj
  rw [cg] at h
  have h1 : 1 * Int.gcd i j = Int.gcd (fr i j).1 (fr i j).2 * Int.gcd i j := by rw [Nat.one_mul]; exact h
  exact (Nat.eq_of_mul_eq_mul_right hg h1).symm
theorem fr_cross {i j : Int} (hj : j ≠ 0) : (fr i j).1 * j = i * (fr i j).2 := by
  obtain ⟨c, c0, cs, cg, e1, e2⟩ := fr_is (i := i) hj
  generalize (fr i j).1 = x at *
  generalize (fr i j).2 = y at *
  subst e1 e2
  rw [Int.mul_assoc, Int.mul_comm c y]
theorem fr_le {i j : Int} (hj : j ≠ 0) : (fr i j).1.natAbs ≤ i.natAbs ∧ (fr i j).2.natAbs ≤ j.natAbs := by
  obtain ⟨c, c0, cs, cg, e1, e2⟩ := fr_is (i := i) hj
  have hc : 1 ≤ c.natAbs := by omega
  generalize (fr i j).1 = x at *
  generalize (fr i j).2 = y at *
  subst e1 e2
  rw [Int.natAbs_mul, Int.natAbs_mul]
  exact ⟨Nat.le_mul_of_pos_right _ hc, Nat.le_mul_of_pos_right _ hc⟩
theorem co_dvd {a b d : Int} (g : Int.gcd a b = 1) (h : b ∣ a * d) : b ∣ d := by
  have h1 : b.natAbs ∣ a.natAbs * d.natAbs := by
    rw [← Int.natAbs_mul]
    exact Int.natAbs_dvd_natAbs.mpr h
  have h2 : Nat.Coprime b.natAbs a.natAbs := by
    rw [Nat.coprime_comm]
    exact g
  exact Int.natAbs_dvd_natAbs.mp (Nat.Coprime.dvd_of_dvd_mul_left h2 h1)
/-- lowest terms are told once -/
theorem low_uniq {a b c d : Int} (hb : 0 < b) (hd : 0 < d) (g1 : Int.gcd a b = 1) (g2 : Int.gcd c d = 1) (h : a * d = c * b) : a = c ∧ b = d := by
  have d1 : b ∣ d := by
    have : b ∣ a * d := ⟨c, by rw [h, Int.mul_comm]⟩
    exact co_dvd g1 this
  have d2 : d ∣ b := by
    have : d ∣ c * b := ⟨a, by rw [← h, Int.mul_comm]⟩
    exact co_dvd g2 this
  have e : b = d := Int.dvd_antisymm (by omega) (by omega) d1 d2
  subst e
  exact ⟨Int.eq_of_mul_eq_mul_right (by omega) h, rfl⟩
def isFrac : PyData → Bool
  | .tuple [.int a, .int b] => decide (1 ≤ b) && decide (Int.gcd a b = 1)
  | _ => false
theorem isFrac_len {xs : List PyData} (h : xs.length ≠ 2) : isFrac (.tuple xs) = false := by
  unfold isFrac
  split
  · simp_all
  · rfl
theorem isFrac_one {p q : PyData} (h : isWhole p = false) : isFrac (.tuple [p, q]) = false := by
  unfold isFrac
  split
  · simp_all [isWhole]
  · rfl
theorem isFrac_two {p q : PyData} (h : isWhole q = false) : isFrac (.tuple [p, q]) = false := by
  unfold isFrac
  split
  · simp_all [isWhole]
  · rfl
theorem isFrac_kind {p : PyData} (h : isTup p = false) : isFrac p = false := by
  unfold isFrac
  split
  · simp_all [isTup]
  · rfl
theorem eqv_int (i j : Int) : PyData.eqv (.int i) (.int j) = decide (i = j) := by
  rw [PyData.eqv]
  by_cases h : i = j
  · subst h; simp
  · simp [h]
theorem shaped_int (i : Int) : SeqAt.shaped (.int i) = true := by simp [SeqAt.shaped, PyData.canLay0, PyData.depth]
end Hc

namespace Hc
open PySem PySem.Spec PyProof.Rows L2
/-! ### a tuple times one is itself -/
section
variable {K : PySem.W.Frag} {te ta tb tc tl : TE} {tt : TT} {tA : TA} {ds : List SD} {ms : List MD} {R : RS} {t u : TS} {P : Po}
/-! ### slices -/
def EO (K : PySem.W.Frag) (to : TO) (ds : List SD) (ms : List MD) (R : Option Int → List MD → Prop) : Prop :=
  ∀ (L M : List Addr) (σ : L2.St) (H : Hp), Sl K L M σ H ds → At L M ms H → ∀ Q : Option Int → Hp → Prop, (∀ o H' ms', Wk L H H' → At L M ms' H' → R o ms' → Q o H') → to σ H Q
theorem eo_none {RO : Option Int → List MD → Prop} (r : RO none ms) : EO K tNoPart ds ms RO := fun L M σ H hS hA Q q => q none H ms (Wk.refl L H) hA r
theorem eo_some {RO : Option Int → List MD → Prop} (h : E K te ds ms fun s ms1 => ∃ i, s = .d (.int i) ∧ RO (some i) ms1) : EO K (tPart te) ds ms RO := fun L M σ H hS hA Q q =>
  h L M σ H hS hA _ fun s v H1 ms1 w o ⟨i, e, r⟩ => by
    subst e
    obtain ⟨a, z⟩ := o
    cases z
    exact ⟨i, rfl, q (some i) H1 ms1 w a r⟩
def cutD (es : List PyData) (lo hi : Option Int) : List PyData := (es.drop (HT.sIx es.length 0 lo)).take (HT.sIx es.length es.length hi - HT.sIx es.length 0 lo)
theorem cut_of {M : List Addr} {H : Hp} {xs : List V} {es : List PyData} (r : RpA M H xs es) (lo hi : Option Int) : RpA M H (cutV xs lo hi) (cutD es lo hi) := by
  unfold cutV cutD
  rw [r.length]
  exact (r.drop _).take _
theorem e_slL {to th : TO} (h : E K te ds ms fun s ms1 => EO K to ds ms1 fun lo ms2 => EO K th ds ms2 fun hi ms3 => ∃ es, Sv ms3 (dd s) (.list es) ∧ R (.f (cutD es lo hi)) ms3) : E K (tSl (rSlL K) te to th) ds ms R := fun L M σ H hS hA Q q =>
  h L M σ H hS hA _ fun s v H1 ms1 w1 o1 h1 => h1 L M σ H1 (hS.mono hA w1) o1.at _ fun lo H2 ms2 w2 a2 h2 => h2 L M σ H2 ((hS.mono hA w1).mono o1.at w2) a2 _ fun hi H3 ms3 w3 a3 ⟨es, sv, r⟩ => by
    obtain ⟨p, xs, rfl, hq, hr⟩ := sv.lst a3 ((o1.sl.mono o1.at w2).mono a2 w3)
    have w := (w1.trans w2).trans w3
    exact ⟨p, xs, rfl, hq, fun l hl => q (.f (cutD es lo hi)) _ _ ms3 (w.trans (Wk.new hl)) (out_new a3 w hl (cut_of hr lo hi)) r⟩
/-- a part of a tuple that is not the whole -/
theorem e_slT {to th : TO} (h : E K te ds ms fun s ms1 => EO K to ds ms1 fun lo ms2 => EO K th ds ms2 fun hi ms3 => ∃ es, s = .d (.tuple es) ∧ ¬ (HT.sIx es.length 0 lo = 0 ∧ HT.sIx es.length es.length hi = es.length) ∧ R (.d (.tuple (cutD es lo hi))) ms3) : E K (tSl (rSlT K) te to th) ds ms R := fun L M σ H hS hA Q q =>
  h L M σ H hS hA _ fun s v H1 ms1 w1 o1 h1 => h1 L M σ H1 (hS.mono hA w1) o1.at _ fun lo H2 ms2 w2 a2 h2 => h2 L M σ H2 ((hS.mono hA w1).mono o1.at w2) a2 _ fun hi H3 ms3 w3 a3 ⟨es, e, hn, r⟩ => by
    subst e
    have z := (o1.sl.mono o1.at w2).mono a2 w3
    obtain ⟨p, xs, rfl, e1, hr⟩ := Sv.tup (ms := ms3) (.d _) z
    have w := (w1.trans w2).trans w3
    refine ⟨p, xs, rfl, SqT.of e1, by rw [hr.length]; exact hn, fun l hl => ?_⟩
    exact q (.d (.tuple (cutD es lo hi))) _ _ ms3 (w.trans (Wk.new hl)) ⟨a3.new hl, .tup (a3.fresh hl) upd_same (RpA.to (a3.wk (Wk.new hl)) _ _ (cut_of hr lo hi))⟩ r
end
/-! ### data that == takes -/
def Shp (n : Nat) (d : PyData) : Prop := d.canLay0 = true ∧ d.depth ≤ n
theorem Shp.ok {n : Nat} {d : PyData} (h : Shp n d) (hn : n ≤ 64) : SeqAt.shaped d = true := by
  unfold SeqAt.shaped
  rw [h.1, decide_eq_true (Nat.le_trans h.2 hn)]
  rfl
theorem Shp.all {n : Nat} : ∀ {es : List PyData}, (∀ e ∈ es, Shp n e) → PyData.canLayAll0 es = true ∧ PyData.depthAll es ≤ n
  | [], _ => ⟨rfl, by simp [PyData.depthAll]⟩
  | e :: r, h => by
    have h1 := h e (by simp)
    have h2 := Shp.all (es := r) fun x hx => h x (by simp [hx])
    exact ⟨by simp [PyData.canLayAll0, h1.1, h2.1], by simp only [PyData.depthAll]; exact Nat.max_le.mpr ⟨h1.2, h2.2⟩⟩
theorem Shp.tup {n : Nat} {es : List PyData} (h : ∀ e ∈ es, Shp n e) : Shp (n + 1) (.tuple es) := by
  have := Shp.all h
  exact ⟨by simp [PyData.canLay0, this.1], by simp only [PyData.depth]; have := this.2; omega⟩
theorem Shp.lst {n : Nat} {es : List PyData} (h : ∀ e ∈ es, Shp n e) : Shp (n + 1) (.list es) := by
  have := Shp.all h
  exact ⟨by simp [PyData.canLay0, this.1], by simp only [PyData.depth]; have := this.2; omega⟩
theorem Shp.int (i : Int) : Shp 0 (.int i) := ⟨rfl, Nat.le_refl _⟩
theorem Shp.bl (i : Bool) : Shp 0 (.bool i) := ⟨rfl, Nat.le_refl _⟩
theorem Shp.mono {m n : Nat} {d : PyData} (h : Shp m d) (l : m ≤ n) : Shp n d := ⟨h.1, Nat.le_trans h.2 l⟩
theorem Shp.ints (ns : List Int) : ∀ e ∈ ns.map PyData.int, Shp 0 e := fun e he => by
  obtain ⟨i, _, rfl⟩ := List.mem_map.mp he
  exact .int i
theorem Shp.pr (p : Int × Int) : Shp 1 (pr p) := Shp.tup fun e he => by
  simp at he
  rcases he with rfl | rfl <;> exact .int _
theorem eqv_self {n : Nat} {d : PyData} (h : Shp n d) : PyData.eqv d d = true := SeqAt.eqv_refl d h.1
/-! ### fractions as numbers -/
def val (p : Int × Int) : Rat := (p.1 : Rat) / (p.2 : Rat)
theorem cast_ne {b : Int} (h : b ≠ 0) : (b : Rat) ≠ 0 := by exact_mod_cast h
theorem val_fr {i j : Int} (h : j ≠ 0) : val (fr i j) = (i : Rat) / (j : Rat) := by
  have hc := fr_cross (i := i) h
  have hp := fr_pos (i := i) h
  unfold val
  have h1 : ((fr i j).2 : Rat) ≠ 0 := cast_ne (by omega)
  have h2 : (j : Rat) ≠ 0 := cast_ne h
  have h3 : ((fr i j).1 : Rat) * (j : Rat) = (i : Rat) * ((fr i j).2 : Rat) := by
    rw [← Rat.intCast_mul, ← Rat.intCast_mul, hc]
  grind
structure Lo (p : Int × Int) : Prop where
  pos : 0 < p.2
  low : Int.gcd p.1 p.2 = 1
theorem Lo.fr {i j : Int} (h : j ≠ 0) : Lo (fr i j) := ⟨fr_pos h, fr_low h⟩
theorem Lo.eq {p q : Int × Int} (a : Lo p) (b : Lo q) (h : val p = val q) : p = q := by
  unfold val at h
  have h1 : (p.2 : Rat) ≠ 0 := cast_ne (by have := a.pos; omega)
  have h2 : (q.2 : Rat) ≠ 0 := cast_ne (by have := b.pos; omega)
  have h3 : (p.1 : Rat) * (q.2 : Rat) = (q.1 : Rat) * (p.2 : Rat) := by grind
  rw [← Rat.intCast_mul, ← Rat.intCast_mul] at h3
  have h4 : p.1 * q.2 = q.1 * p.2 := by exact_mod_cast h3
  obtain ⟨e1, e2⟩ := low_uniq a.pos b.pos a.low b.low h4
  exact Prod.ext e1 e2
def pl (t f : Int × Int) : Int × Int := fr (t.1 * f.2 + f.1 * t.2) (t.2 * f.2)
theorem pl_lo {t f : Int × Int} (a : t.2 ≠ 0) (b : f.2 ≠ 0) : Lo (pl t f) := Lo.fr (Int.mul_ne_zero a b)
theorem pl_val {t f : Int × Int} (a : t.2 ≠ 0) (b : f.2 ≠ 0) : val (pl t f) = val t + val f := by
  unfold pl
  rw [val_fr (Int.mul_ne_zero a b)]
  unfold val
  have h1 : (t.2 : Rat) ≠ 0 := cast_ne a
  have h2 : (f.2 : Rat) ≠ 0 := cast_ne b
  rw [Rat.intCast_add, Rat.intCast_mul, Rat.intCast_mul, Rat.intCast_mul]
  grind
def sumF (fs : List (Int × Int)) : Int × Int := fs.foldl pl (0, 1)
def sumV (fs : List (Int × Int)) : Rat := (fs.map val).sum
structure Wt (p : Int × Int) : Prop where
  lo : Lo p
  b1 : Bd 32 p.1
  b2 : Bd 10 p.2
theorem foldl_snoc (fs : List (Int × Int)) (f : Int × Int) : sumF (fs ++ [f]) = pl (sumF fs) f := by
  unfold sumF
  rw [List.foldl_append]
  rfl
theorem lo01 : Lo (0, 1) := ⟨by decide, by decide⟩
theorem sumF_lo : ∀ (fs : List (Int × Int)), (∀ f ∈ fs, f.2 ≠ 0) → Lo (sumF fs) ∧ val (sumF fs) = sumV fs := by
  intro fs
  have gen : ∀ (fs : List (Int × Int)) (t : Int × Int), Lo t → (∀ f ∈ fs, f.2 ≠ 0) → Lo (fs.foldl pl t) ∧ val (fs.foldl pl t) = val t + sumV fs := by
    intro fs
    induction fs with
    | nil =>
      intro t ht _
      refine ⟨ht, ?_⟩
      show val t = val t + 0
      grind
    | cons f r ih =>
      intro t ht h
      have hf := h f (by simp)
      have ht2 : t.2 ≠ 0 := by have := ht.pos; omega
      have := ih (pl t f) (pl_lo ht2 hf) fun x hx => h x (by simp [hx])
      refine ⟨this.1, ?_⟩
      show val (r.foldl pl (pl t f)) = _
      rw [this.2, pl_val ht2 hf]
      show _ = val t + (val f + sumV r)
      grind
  intro h
  have := gen fs (0, 1) lo01 h
  refine ⟨this.1, ?_⟩
  show val (fs.foldl pl (0, 1)) = _
  rw [this.2]
  have : val (0, 1) = 0 := by
    show ((0 : Int) : Rat) / ((1 : Int) : Rat) = 0
    grind
  rw [this]
  grind
theorem fold_bd : ∀ (fs : List (Int × Int)) (t : Int × Int) (a b : Nat), b ≤ a → t.2 ≠ 0 → Bd a t.1 → Bd b t.2 → (∀ f ∈ fs, f.2 ≠ 0 ∧ Bd 32 f.1 ∧ Bd 10 f.2) → Bd (a + 44 * fs.length) (fs.foldl pl t).1 ∧ Bd (b + 10 * fs.length) (fs.foldl pl t).2 := by
  intro fs
  induction fs with
  | nil => intro t a b _ _ h1 h2 _; exact ⟨h1, h2⟩
  | cons f r ih =>
    intro t a b hab h0 h1 h2 h
    obtain ⟨f0, f1, f2⟩ := h f (by simp)
    have hne := Int.mul_ne_zero h0 f0
    have x1 : Bd (a + 43) (t.1 * f.2) := (h1.mul f2).mono (by omega)
    have x2 : Bd (a + 43) (f.1 * t.2) := (f1.mul h2).mono (by omega)
    have b1 : Bd (a + 44) (t.1 * f.2 + f.1 * t.2) := x1.add x2
    have b2 : Bd (b + 10) (t.2 * f.2) := h2.mul f2
    have c1 : Bd (a + 44) (pl t f).1 := b1.le (fr_le hne).1
    have c2 : Bd (b + 10) (pl t f).2 := b2.le (fr_le hne).2
    have p2 := fr_pos (i := t.1 * f.2 + f.1 * t.2) hne
    have := ih (pl t f) (a + 44) (b + 10) (by omega) (by show (fr _ _).2 ≠ 0; omega) c1 c2 fun x hx => h x (by simp [hx])
    have e1 : a + 44 + 44 * r.length = a + 44 * (f :: r).length := by simp; omega
    have e2 : b + 10 + 10 * r.length = b + 10 * (f :: r).length := by simp; omega
    rw [e1, e2] at this
    exact this
theorem take_snoc {α : Type} {l : List α} {i : Nat} {x : α} (h : l[i]? = some x) : l.take (i + 1) = l.take i ++ [x] := by
  rw [List.take_add_one, h]
  rfl
theorem wt_ok {f : Int × Int} (h : Wt f) : f.2 ≠ 0 ∧ Bd 32 f.1 ∧ Bd 10 f.2 := ⟨by have := h.lo.pos; omega, h.b1, h.b2⟩
/-! ### webs -/
abbrev Tie := Nat × Nat × (Int × Int)
abbrev encT (t : Tie) : PyData := .tuple [.int t.1, .int t.2.1, pr t.2.2]
abbrev encW (m : Nat) (ts : List Tie) : PyData := .tuple [.int m, .tuple (ts.map encT)]
structure TieOk (m : Nat) (t : Tie) : Prop where
  lt : t.1 < t.2.1
  lm : t.2.1 < m
  w : Wt t.2.2
structure WebOk (m : Nat) (ts : List Tie) : Prop where
  all : ∀ t ∈ ts, TieOk m t
  len : ts.length ≤ 170
  m1 : 1 ≤ m
  m60 : m ≤ 60
abbrev encS (sd : List Int) : PyData := .tuple (sd.map .int)
theorem get1 (ms : List MD) (A : MD) : (ms ++ [A])[ms.length]? = some A := by simp
theorem set1 (ms : List MD) (A X : MD) : (ms ++ [A]).set ms.length X = ms ++ [X] := by
  rw [List.set_append_right _ _ (Nat.le_refl _), Nat.sub_self]
  rfl
theorem get2b (ms : List MD) (A B : MD) : (ms ++ [A] ++ [B])[ms.length + 1]? = some B := by
  have := get1 (ms ++ [A]) B
  rw [List.length_append] at this
  exact this
theorem set2b (ms : List MD) (A B X : MD) : (ms ++ [A] ++ [B]).set (ms.length + 1) X = ms ++ [A] ++ [X] := by
  have := set1 (ms ++ [A]) B X
  rw [List.length_append] at this
  exact this
section
variable {K : PySem.W.Frag} {te ta tb tc tl : TE} {tt : TT} {tA : TA} {ds : List SD} {ms : List MD} {R : RS} {t u : TS} {P : Po}
/-- a statement, then what holds behind it, then the rest -/
theorem s_mid (Mid : List SD → List MD → Prop) (h1 : S K t ds ms { P with nx := Mid }) (h2 : ∀ ds1 ms1, Mid ds1 ms1 → S K u ds1 ms1 P) : S K (tSeq t u) ds ms P := fun L M σ H hS hA D n r b c =>
  h1 L M σ H hS hA { D with nx := u D } (fun σ1 H1 ds1 ms1 w s1 a1 h => h2 ds1 ms1 h L M σ1 H1 s1 a1 D (n.on w) (r.on a1 w) (b.on w) (c.on w)) r b c
end
end Hc

namespace Hc
open PySem PySem.Spec PyProof.Rows L2
/-! ### errors -/
abbrev PhX := List SD → List MD → RS → (List MD → Prop) → Prop
/-- a def that hands back, or raises the class at C -/
def SpX (K : PySem.W.Frag) (C : Addr) (Φ : PhX) : Sp := fun vs H Q X => ∃ L M ms as R Y, At L M ms H ∧ SlsOk K L M H as vs ∧ Φ as ms R Y ∧ (∀ s v H' ms', Wk L H H' → Out K L M H H' ms' v s → R s ms' → Q v H') ∧ ∀ H' ms', Wk L H H' → At L M ms' H' → Y ms' → X (.ref C) none H'
def Ex (L M : List Addr) (H : Hp) (C : Addr) (Y : List MD → Prop) (X : XK) : Prop := ∀ H' ms', Wk L H H' → At L M ms' H' → Y ms' → X (.ref C) none H'
def SX (K : PySem.W.Frag) (C : Addr) (t : XK → TS) (ds : List SD) (ms : List MD) (P : Po) (Y : List MD → Prop) : Prop :=
  ∀ (L M : List Addr) (σ : L2.St) (H : Hp), Sl K L M σ H ds → At L M ms H → ∀ (D : Ends) (X : XK), Nx K L M H P.nx D.nx → Rx K L M H P.rt D.rt → Nx K L M H P.bk D.bk → Nx K L M H P.ct D.ct → Ex L M H C Y X → t X D σ H
section
variable {K : PySem.W.Frag} {C : Addr} {te ta tb tc tl : TE} {tt : TT} {tA : TA} {ds : List SD} {ms : List MD} {R : RS} {P : Po} {Y : List MD → Prop}
theorem Ex.on {L M : List Addr} {H H1 : Hp} {X : XK} (w : Wk L H H1) (h : Ex L M H C Y X) : Ex L M H1 C Y X := fun H' ms' w2 => h H' ms' (w.trans w2)
theorem sx_of {t : TS} (h : S K t ds ms P) : SX K C (fun _ => t) ds ms P Y := fun L M σ H hS hA D X n r b c _ => h L M σ H hS hA D n r b c
theorem sx_seq {t u : XK → TS} (h : SX K C t ds ms { P with nx := fun ds1 ms1 => SX K C u ds1 ms1 P Y } Y) : SX K C (fun X => tSeq (t X) (u X)) ds ms P Y := fun L M σ H hS hA D X n r b c x =>
  h L M σ H hS hA { D with nx := u X D } X (fun σ1 H1 ds1 ms1 w s1 a1 h1 => h1 L M σ1 H1 s1 a1 D X (n.on w) (r.on a1 w) (b.on w) (c.on w) (x.on w)) r b c x
theorem sx_if {t u : XK → TS} (h : ET K tt ds ms fun b ms1 => (b = true → SX K C t ds ms1 P Y) ∧ (b = false → SX K C u ds ms1 P Y)) : SX K C (fun X => tIfS tt (t X) (u X)) ds ms P Y := fun L M σ H hS hA D X n r b c x =>
  h L M σ H hS hA _ fun k H1 ms1 w a ⟨h1, h2⟩ => by
    cases k with
    | true => exact h1 rfl L M σ H1 (hS.mono hA w) a D X (n.on w) (r.on a w) (b.on w) (c.on w) (x.on w)
    | false => exact h2 rfl L M σ H1 (hS.mono hA w) a D X (n.on w) (r.on a w) (b.on w) (c.on w) (x.on w)
/-- raise -/
def tRs (C : Addr) (X : XK) : TS := fun _ σ H => (fun (cls : Value) (d : Option Addr) (H' : Hp) => (fun (c : Value) (d : Option Addr) (_ : L2.St) (H : Hp) => X c d H) cls d σ H') (.ref C) none H
theorem sx_raise (h : Y ms) : SX K C (tRs C) ds ms P Y := fun L M σ H hS hA D X n r b c x => x H ms (Wk.refl L H) hA h
theorem kit_up {D : Addr} (hc : (PySem.W.clsIn K D).isSome = true) (ht : PySem.W.typeIn K (.ref D) = some (.type "type")) (hs : PySem.W.subIn K (.ref C) (.ref D) = some true) : PySem.W.kitOne K (.ref C) (.ref D) = some true := by
  unfold PySem.W.kitOne
  by_cases e : ((Value.ref C == Value.ref D) = true)
  · rw [if_pos e]
  · rw [if_neg e]
    show (if _ then _ else _) = _
    rw [hc, ht, hs]
    rfl
theorem kit_upT {T : String} (hm : PySem.W.kitMeta T = true) (hs : PySem.W.subIn K (.ref C) (.type T) = some true) : PySem.W.kitOne K (.ref C) (.type T) = some true := by
  unfold PySem.W.kitOne
  rw [if_neg (by simp)]
  show (if _ then _ else _) = _
  rw [if_pos hm, hs]
/-- a class of one's own over ValueError -/
structure Er (K : PySem.W.Frag) (mg : Str → Option Value) (x : Str) (C : Addr) : Prop where
  g : mg x = some (.ref C)
  x : PySem.W.excIn K C [.type "ValueError", .type "Exception", .type "BaseException", .type "object"] "ValueError.__new__" = true
  k : PySem.W.keepIn K (.ref C) = true
  b : PySem.W.subIn K (.ref C) (.type "BaseException") = some true
  t : PySem.W.typeIn K (.ref C) = some (.type "type")
  s : PySem.W.subIn K (.ref C) (.ref C) = some true
  e : ExcC K C
theorem ps_raiseD {X : Cx} {x m : Str} {j : Nat} {p p2 pos pos' : Pos} {E₁ : Value → Shared → Prop} {Y : XK} (e : Er X.K X.mg x C) (hc : X.calm = true) (hs : X.stack = X.env :: X.outer) (hf : X.env.frame = some X.env.locals) (hex : X.ex = [])
    (hx : X.xe = fun e s' => wpAny (model X.prog X.w) X.A (leaving X.env e) (fun _ s'' => L2.CX X.prog X.w X.outer X.H_0 X.s_0 Y e s'') E₁ s') (hg : Gl X x) (hdb : (x == ("__debug__" : Str)) = false := by decide) :
    PS X (.Raise (some (.Call (.Name x p) [.Constant (.str m) j p2] [] pos)) none pos') (tRs C Y) :=
  ps_raise hc (takes_of hs hf hex hx) (pmk_own PySem.F.excBase_ValueError e.x e.g e.k (raises_own e.b e.t) hg hdb)
/-- a def that may raise, by name -/
structure KnX (Pg : Program) (w : World) (K : PySem.W.Frag) (mg : Str → Option Value) (base : Heap) (x : Str) (lv : Nat) (ps : List Str) (C : Addr) (Φ : PhX) : Prop where
  ex : ∃ f fd, FnOk Pg w K mg base (L2.CX Pg w) lv f fd ps (SpX K C Φ) ∧ mg x = some (.ref f) ∧ PySem.W.keepIn K (.ref f) = true ∧ Binds K fd ps []
theorem pe_callX {X : Cx} {x : Str} {lv : Nat} {ps : List Str} {Φ : PhX} {W : WX} {e : Expr} {es : List Expr} {t : TA} {p pos : Pos} (h : KnX X.prog X.w X.K X.mg X.base x lv ps C Φ) (hr : Room lv X.A) (hg : Gl X x) (tk : Takes X W) (ha : PA X (e :: es) t)
    (hdb : (x == ("__debug__" : Str)) = false := by decide) (he : starEach (e :: es) X.env = (false, eval e X.env) :: starEach es X.env := by rfl) (hpl : (backTo pos (starEach es X.env)).any (·.1) = false := by rfl) :
    PE X (.Call (.Name x p) (e :: es) [] pos) (tCallS (SpX X.K C Φ) (WE W) t) := by
  obtain ⟨f, fd, G, m, k, b⟩ := h.ex
  exact pe_callS G hr hg m k b (fun σ => passAt tk σ) ha hdb he hpl
/-- in a place where it raises nothing -/
theorem pe_callX0 {X : Cx} {x : Str} {lv : Nat} {ps : List Str} {Φ : PhX} {e : Expr} {es : List Expr} {t : TA} {p pos : Pos} (h : KnX X.prog X.w X.K X.mg X.base x lv ps C Φ) (hr : Room lv X.A) (hg : Gl X x) (ha : PA X (e :: es) t)
    (hdb : (x == ("__debug__" : Str)) = false := by decide) (he : starEach (e :: es) X.env = (false, eval e X.env) :: starEach es X.env := by rfl) (hpl : (backTo pos (starEach es X.env)).any (·.1) = false := by rfl) :
    PE X (.Call (.Name x p) (e :: es) [] pos) (tCall (SpX X.K C Φ) [] E0 t) := by
  obtain ⟨f, fd, G, m, k, b⟩ := h.ex
  exact pe_call G hr hg m k b .nil passL ha hdb he hpl
theorem e_callX0 {Φ : PhX} (h : EA K tA ds ms fun as ms1 => Φ as ms1 R fun _ => False) : E K (tCall (SpX K C Φ) [] E0 tA) ds ms R := fun L M σ H hS hA Q q =>
  h L M σ H hS hA _ fun as vs H1 ms1 w1 a1 o1 h1 => by
    rw [List.append_nil]
    exact ⟨L, M, ms1, as, R, fun _ => False, a1, o1, h1, fun s v H3 ms3 w3 o3 r3 => q s v H3 ms3 (w1.trans w3) (o3.back a1 w1) r3, fun _ _ _ _ z => z.elim⟩
theorem okX_of {Pg : Program} {w : World} {mg : Str → Option Value} {base : Heap} {x qual : Str} {st : Stmt} {f : Addr} {fd : FuncData} {N ps : List Str} {k : Nat} {Φ : PhX} (F : Fun K x qual st f fd) (Sc : FnScope N ps (defScope st)) (hl : ∀ as ms R Y, Φ as ms R Y → as.length = ps.length) (hpn : ps.length ≤ N.length)
    (t : XK → TS) (hbody : ∀ (cdv : Value) (A : Around) (outer : List Env) (s : Shared) (H : Hp) (E : XK), Room k (A.deeper (envOfC qual (defScope st) s.heap.objs.size f cdv)) → PSs (cxOf (L2.CX Pg w) Pg w K mg base N qual (defScope st) f cdv A outer s H E) (defBody st) (t E))
    (h2 : ∀ as ms R Y, Φ as ms R Y → SX K C t (as ++ List.replicate (N.length - as.length) .u) ms (fin R) Y) : FnOk Pg w K mg base (L2.CX Pg w) (k + 1) f fd ps (SpX K C Φ) := by
  refine F.okX Sc (fun vs H Q E h => ?_) (fun cdv A outer s H vs Q E hr h => ⟨t E, hbody cdv A outer s H E hr, ?_⟩)
  · obtain ⟨L, M, ms, as, R, Y, hA, ho, hp, q⟩ := h
    rw [← ho.len]
    exact hl as ms R Y hp
  · obtain ⟨L, M, ms, as, R, Y, hA, ho, hp, q, x⟩ := h
    exact h2 as ms R Y hp L M _ H (Sl.start ho (by rw [hl as ms R Y hp]; exact hpn)) hA _ E (fun σ' H' ds' ms' w s a r => q (.d .none) .non H' ms' w ⟨a, .non⟩ r) (fun s v H' ms' w o r => q s v H' ms' w o r) (fun _ _ _ _ _ _ _ z => z.elim) (fun _ _ _ _ _ _ _ z => z.elim) x
/-! ### try .. except X as n -/
end
def phx2 (f : SD → SD → List MD → RS → (List MD → Prop) → Prop) : PhX := fun as ms R Y => ∃ a b, as = [a, b] ∧ f a b ms R Y
theorem phx2_len {f : SD → SD → List MD → RS → (List MD → Prop) → Prop} : ∀ as ms R Y, phx2 f as ms R Y → as.length = 2 := fun _ _ _ _ ⟨_, _, e, _⟩ => by rw [e]; rfl
end Hc

namespace Hc
open PySem PySem.Spec PyProof.Rows L2
/-! ### what is a list or a tuple, in a slot, walked -/
def iRow (K : PySem.W.Frag) (i : Nat) : TI := fun σ H R => iList K (tVar i) σ H R ∨ iTup K (tVar i) σ H R
theorem pi_row {X : Cx} {tg l : Expr} {i : Nat} (h : PE X l (tVar i)) : PI X tg l (iRow X.K i) := ⟨fun pins s σ H R I q => by
  rcases q with q | q
  · exact (pi_list h).run pins s σ H R I q
  · exact (pi_tup h).run pins s σ H R I q⟩
section
variable {K : PySem.W.Frag} {te ta tb tc tl : TE} {tt : TT} {tA : TA} {ds : List SD} {ms : List MD} {R : RS} {P : Po}
theorem e_lcRowL {i : Nat} {g : TG} {vs : List Nat} (h : E K (tLc (iList K (tVar i)) g tt te vs) ds ms R) : E K (tLc (iRow K i) g tt te vs) ds ms R := fun L M σ H hS hA Q q => .inl (h L M σ H hS hA Q q)
theorem e_lcRowT {i : Nat} {g : TG} {vs : List Nat} (h : E K (tLc (iTup K (tVar i)) g tt te vs) ds ms R) : E K (tLc (iRow K i) g tt te vs) ds ms R := fun L M σ H hS hA Q q => .inr (h L M σ H hS hA Q q)
/-- both at once: the source a row es -/
theorem e_lcRow {i : Nat} {g : TG} {js vs : List Nat} {x : PyData} {es : List PyData} (hi : ds[i]? = some (.d x)) (hx : x = .list es ∨ x = .tuple es) (hj : ∀ j ∈ js, j ∈ vs) (hz : es.length ≤ 10000) (Pv : Nat → List PyData → List MD → Prop) (h0 : Pv 0 [] ms)
      (hs : ∀ i e acc ms1, es[i]? = some e → Pv i acc ms1 → Lt K g js tt te vs ds (.d e) ms1 acc (Pv (i + 1))) (hd : ∀ acc ms1, Pv es.length acc ms1 → R (.f acc) ms1) : E K (tLc (iRow K i) g tt te vs) ds ms R := by
  rcases hx with rfl | rfl
  · exact e_lcRowL (e_lcL hj (e_var hi ⟨es, .d es, hz, Pv, h0, hs, hd⟩))
  · exact e_lcRowT (e_lcT hj (e_var hi ⟨es, rfl, hz, Pv, h0, hs, hd⟩))
end
end Hc

namespace Hc
open PySem PySem.Spec PyProof.Rows L2
/-! ### o[i] op= e -/
section
variable {K : PySem.W.Frag} {te ta tb tc tl : TE} {tt : TT} {tA : TA} {ds : List SD} {ms : List MD} {R : RS} {P : Po}
theorem rr_rep {a b : SD} (h : ∃ (e : PyData) (k : Int), a = .d (.list [e]) ∧ b = .d (.int k) ∧ 0 ≤ k ∧ k ≤ 1000 ∧ R (.f (List.replicate k.toNat e)) ms) : RR K rRep a b ms R := fun L M H x y hA ha hb Q q => by
  obtain ⟨e, k, rfl, rfl, h1, h2, r⟩ := h
  cases hb
  obtain ⟨p, xs, rfl, ep, rp⟩ := cat_lst ha
  obtain ⟨v, rfl⟩ : ∃ v, xs = [v] := by
    cases rp with
    | cons z y => cases y; exact ⟨_, rfl⟩
  refine ⟨p, k, [v], rfl, rfl, ep, by omega, by omega, by show 1 * k.toNat ≤ sizeLine; rw [Nat.one_mul]; exact Nat.le_trans (show k.toNat ≤ 1000 by omega) (by decide), ?_⟩
  have rr : ∀ m : Nat, RpA M H (List.replicate m [v]).flatten (List.replicate m e) := fun m => by
    induction m with
    | zero => exact .nil
    | succ m ih =>
      rw [List.replicate_succ, List.replicate_succ, List.flatten_cons]
      cases rp with
      | cons z y => exact .cons z ih
  intro l hl
  exact q (.f (List.replicate k.toNat e)) _ _ ms (Wk.new hl) (out_new hA (Wk.refl L H) hl (rr k.toNat)) r
theorem inV_ints (x : Int) (ns : List Int) : inV (.int x) (ns.map V.int) = decide (x ∈ ns) := by
  unfold inV
  induction ns with
  | nil => rfl
  | cons a r ih =>
    rw [List.map_cons, List.any_cons, ih]
    show ((a == x) || _) = _
    by_cases e : a = x
    · subst e; simp
    · have e' : (a == x) = false := by simp [e]
      rw [e']
      have : ¬ x = a := fun z => e z.symm
      simp [this]
theorem flat_ints (ns : List Int) : (ns.map V.int).all flatV = true := by
  rw [List.all_eq_true]
  intro v hv
  obtain ⟨i, _, rfl⟩ := List.mem_map.mp hv
  rfl
theorem rr_in {a b : SD} {neg : Bool} (h : ∃ (x : Int) (ns : List Int), a = .d (.int x) ∧ (Sv ms b (.list (ns.map .int)) ∨ Sv ms b (.tuple (ns.map .int))) ∧ R (.d (.bool (if neg then !decide (x ∈ ns) else decide (x ∈ ns)))) ms) : RR K (rIn K neg) a b ms R := fun L M H u v hA ha hb Q q => by
  obtain ⟨x, ns, rfl, sv, r⟩ := h
  cases ha
  rw [← inV_ints] at r
  rcases sv with sv | sv
  · obtain ⟨p, xs, rfl, hq, hr⟩ := sv.lst hA hb
    rw [RpA.ints_inv hr] at hq
    exact ⟨p, _, rfl, .inl hq, rfl, flat_ints ns, q (.d (.bool _)) _ H ms (Wk.refl L H) ⟨hA, .bl _⟩ r⟩
  · obtain ⟨p, xs, rfl, hq, hr⟩ := sv.tup hb
    rw [RpA.ints_inv hr] at hq
    exact ⟨p, _, rfl, .inr (SqT.of hq), rfl, flat_ints ns, q (.d (.bool _)) _ H ms (Wk.refl L H) ⟨hA, .bl _⟩ r⟩
theorem rc_sorted {as : List SD} (h : ∃ (s : SD) (ns : List Int), as = [s] ∧ Sv ms s (.list (ns.map .int)) ∧ ∀ ns' : List Int, ns'.Perm ns → ns'.Pairwise (· ≤ ·) → R (.f (ns'.map .int)) ms) : RC K (rSortedI K) as ms R := fun L M H vs hA ha Q q => by
  obtain ⟨s, ns, rfl, sv, r⟩ := h
  obtain ⟨v, t, rfl, hv, rfl⟩ := ha
  obtain ⟨p, xs, rfl, hq, hr⟩ := sv.lst hA hv
  rw [RpA.ints_inv hr] at hq
  refine ⟨p, ns, rfl, hq, ?_⟩
  intro ns' l hp hs hl
  exact q (.f (ns'.map .int)) _ _ ms (Wk.new hl) (out_new hA (Wk.refl L H) hl (RpA.ints ns')) (r ns' hp hs)
section
variable {L M : List Addr} {σ : L2.St} {H1 H' : Hp}
theorem lc_turn2 {g : TG} {js : List Nat} {vs : List Nat} {D : Addr} {i : Nat} {acc : List PyData} {ms0 ms1 : List MD} {H2 : Hp} {x : SD} {v : V} {Nn : Nat → List PyData → List MD → Prop} (hj : ∀ j ∈ js, j ∈ vs) (hi : i < 10000)
    (hS : Sl K L M σ H1 ds) (a0 : At L M ms0 H1) (hD : H1 D = none) (c : Cs L M H1 D i acc ms1 H2) (ho : SlOk K L (M ++ [D]) H2 x v) (h : Lt K g js tt te vs ds x ms1 acc (Nn (i + 1))) :
    g v (L2.wipe σ vs) H2 fun σ2 H3 => L2.wipe σ2 vs = L2.wipe σ vs ∧ tt σ2 H3 fun b H4 => if b = true then te σ2 H4 fun y H5 => ∃ ac, H5 D = some (.lst ac) ∧ ac.length < sizeLine ∧ (∃ acc' ms', Cs L M H1 D (i + 1) acc' ms' (upd H5 D (.lst (ac ++ [y]))) ∧ Nn (i + 1) acc' ms') else ∃ acc' ms', Cs L M H1 D (i + 1) acc' ms' H4 ∧ Nn (i + 1) acc' ms' := by
  have t : To M (M ++ [D]) H1 H2 := to_new a0 hD c.w
  have hDL : D ∉ L := a0.freshL hD
  have s2 : Sl K L (M ++ [D]) (L2.wipe σ vs) H2 (wipeD ds vs) := (hS.to t c.w.kd fun _ _ e => e).wipe vs
  refine h L (M ++ [D]) (L2.wipe σ vs) H2 v s2 c.a ho _ fun σ2 ds2 sl2 wp h2 => ?_
  have wv : L2.wipe σ2 vs = L2.wipe σ vs := by
    rw [wp vs hj]
    apply List.ext_getElem?
    intro i
    rw [wipe_get, wipe_get, wipe_length]
    by_cases e : i ∈ vs
    · rw [if_pos e, if_pos e]
    · simp only [if_neg e, wipe_get]
  refine ⟨wv, ?_⟩
  refine h2 L (M ++ [D]) σ2 H2 sl2 c.a _ fun b H4 ms4 w4 a4 ⟨k1, k2⟩ => ?_
  obtain ⟨xs, e, r⟩ := c.d
  have e4 : H4 D = some (.lst xs) := w4 D _ hDL e
  have r4 : RpA (M ++ [D]) H4 xs acc := RpA.to (c.a.wk w4) _ _ r
  cases b with
  | false =>
    rw [if_neg Bool.false_ne_true]
    exact ⟨acc, ms4, ⟨c.w.trans w4, a4, Nat.le_succ_of_le c.le, xs, e4, r4⟩, k2 rfl⟩
  | true =>
    rw [if_pos rfl]
    refine k1 rfl L (M ++ [D]) σ2 H4 (sl2.mono c.a w4) a4 _ fun s y H5 ms5 w5 o5 ⟨d, ed, hn⟩ => ?_
    have a5 := o5.at
    have ry := o5.sl
    rw [ed] at ry
    have e5 : H5 D = some (.lst xs) := w5 D _ hDL e4
    have r5 : RpA (M ++ [D]) H5 xs acc := RpA.to (a4.wk w5) _ _ r4
    have hDM : D ∈ M ++ [D] := by simp
    have tt5 : To (M ++ [D]) (M ++ [D]) H5 (upd H5 D (.lst (xs ++ [y]))) := fun a o n q => ⟨n, by rw [upd_ne (fun z : a = D => n (by rw [z]; exact hDM))]; exact q⟩
    refine ⟨xs, e5, by rw [r5.length]; exact Nat.lt_of_le_of_lt c.le (Nat.lt_trans hi (by decide)), acc ++ [d], ms5, ⟨((c.w.trans w4).trans w5).over hD, ⟨a5.nd, a5.sub, fun p hp => ?_, a5.ln, fun k p m e1 e2 => ?_⟩, ?_, xs ++ [y], upd_same, RpA.to tt5 _ _ (r5.append (.cons ry .nil))⟩, hn⟩
    · by_cases z : p = D
      · subst z; rw [upd_same]; exact ⟨_, rfl, trivial⟩
      · rw [upd_ne z]; exact a5.al p hp
    · exact (a5.ok k p m e1 e2).to tt5 (upd_ne (fun z => hDL (z ▸ List.mem_of_getElem? e1)))
    · rw [List.length_append]; have := c.le; simp; exact this
theorem Cs.new {D T : Addr} {i : Nat} {acc : List PyData} {ms1 : List MD} {H2 : Hp} {o : HO} (c : Cs L M H1 D i acc ms1 H2) (hT : H2 T = none) : Cs L M H1 D i acc ms1 (upd H2 T o) := by
  obtain ⟨xs, e, r⟩ := c.d
  exact ⟨c.w.trans (Wk.new hT), c.a.new hT, c.le, xs, by rw [upd_ne (ne_of_none e hT)]; exact e, RpA.to (c.a.wk (Wk.new hT)) _ _ r⟩
end
/-- over zip(t, u) of two tuples -/
theorem e_lcZ {g : TG} {js vs : List Nat} (hj : ∀ j ∈ js, j ∈ vs) (h : EA K tA ds ms fun as ms0 => ∃ es fs : List PyData, as = [.d (.tuple es), .d (.tuple fs)] ∧ es.length ≤ 10000 ∧ ∃ Pv : Nat → List PyData → List MD → Prop, Pv 0 [] ms0 ∧
      (∀ i e f acc ms1, es[i]? = some e → fs[i]? = some f → Pv i acc ms1 → Lt K g js tt te vs ds (.d (.tuple [e, f])) ms1 acc (Pv (i + 1))) ∧ ∀ acc ms1, Pv (min es.length fs.length) acc ms1 → R (.f acc) ms1) :
    E K (tLc (RZ.iZipA K tA) g tt te vs) ds ms R := fun L M σ H hS hA Q q =>
  h L M σ H hS hA _ fun as us H1 ms0 w a1 o ⟨es, fs, ea, hz, Pv, h0, hs, hd⟩ => by
    subst ea
    obtain ⟨v1, t1, rfl, o1, v2, t2, rfl, o2, rfl⟩ := o
    have o1' : Rp M H1 v1 (.tuple es) := o1
    have o2' : Rp M H1 v2 (.tuple fs) := o2
    cases o1' with
    | @tup a xs _ na ea rx =>
    cases o2' with
    | @tup b ys _ nb eb ry =>
    have hx : ∀ H', Wk L H1 H' → SqT K H' a xs := fun H' w' => SqT.of (w' a _ (fun z => na (a1.sub a z)) ea)
    have hy : ∀ H', Wk L H1 H' → SqT K H' b ys := fun H' w' => SqT.of (w' b _ (fun z => nb (a1.sub b z)) eb)
    refine ⟨a, b, xs, ys, rfl, .inr ⟨hx H1 (Wk.refl L H1), hy H1 (Wk.refl L H1), fun D hD => ?_⟩⟩
    have hDL := a1.freshL hD
    refine ⟨fun i m H' => m = min es.length fs.length - i ∧ i ≤ min es.length fs.length ∧ ∃ acc ms', Cs L M H1 D i acc ms' H' ∧ Pv i acc ms', ⟨_, rfl, Nat.zero_le _, [], ms0, .start a1 hD, h0⟩, ?_⟩
    rintro i m H' ⟨rfl, hi, acc, ms', c, p⟩
    have qx := hx H' c.w
    have qy := hy H' c.w
    by_cases hlt : i < min es.length fs.length
    · have l1 : i < xs.length := by rw [rx.length]; omega
      have l2 : i < ys.length := by rw [ry.length]; omega
      refine .inr ⟨⟨xs, ys, xs[i], ys[i], qx, qy, by simp [l1], by simp [l2]⟩, fun H2 => ∃ acc' ms2, Cs L M H1 D (i + 1) acc' ms2 H2 ∧ Pv (i + 1) acc' ms2, fun H2 ⟨acc', ms2, c2, p2⟩ => ⟨min es.length fs.length - (i + 1), by omega, rfl, hlt, acc', ms2, c2, p2⟩, fun v H2 y => ?_⟩
      obtain ⟨T, x, y, rfl, hT, rfl, fx, fy⟩ := y
      obtain ⟨e, e1, e2⟩ := rx.get' (fx xs qx)
      obtain ⟨f, f1, f2⟩ := ry.get' (fy ys qy)
      have c2 := c.new (o := .tup [x, y]) hT
      have tt2 : To M (M ++ [D]) H1 (upd H' T (.tup [x, y])) := to_new a1 hD c2.w
      have ho : SlOk K L (M ++ [D]) (upd H' T (.tup [x, y])) (.d (.tuple [e, f])) (.ref T) := Rp.tup (c.a.fresh hT) upd_same (.cons (Rp.to tt2 _ _ e2) (.cons (Rp.to tt2 _ _ f2) .nil))
      exact lc_turn2 (x := .d (.tuple [e, f])) (v := .ref T) (Nn := Pv) hj (by omega) (hS.mono hA w) a1 hD c2 ho (hs i e f acc ms' e1 f1 p)
    · have e : i = min es.length fs.length := by omega
      subst e
      refine .inl ⟨⟨xs, ys, qx, qy, by rw [rx.length, ry.length]; omega⟩, ?_⟩
      exact q (.f acc) _ H' ms' (w.trans c.w) ⟨D, rfl, none_back a1 w (a1.fresh hD) hD, a1.fresh hD, c.done a1.sub hDL, a1.sub⟩ (hd acc ms' p)
end
end Hc

namespace Hc
open PySem PySem.Spec PyProof.Rows L2
/-! ### enumerate(t) of a tuple -/
abbrev enO (i : Addr) : Obj := { cls := .type "enumerate", data := .fields #[.none, .bool false, .ref i, rawInt 0, .none, .none] }
theorem en_new {v : Value} {ob : Obj} {G : Heap → Prop} (B : Begins v ob G) :
    Meets (Builtin.«enumerate.__new__» ⟨[.type "enumerate", v], []⟩) (fun _ R st => G st.heap ∧
      R (.ok (.ret (.ref (st.heap.push ob).objs.size))) { st with heap := (st.heap.push ob).push (enO st.heap.objs.size) }) :=
  .of_wp fun pr wd Ar R st hh => by
    obtain ⟨hp, gn, dr, tk, os⟩ := st
    obtain ⟨g1, g2⟩ := hh
    have sb := sub_enumerate
    have go : ∀ {A2 : Around} {E2 : Value → Shared → Prop} {Q2 : Value → Shared → Prop}, Q2 (.ref hp.objs.size) ⟨hp.push ob, gn, dr, tk, os⟩ →
        wpAny (model pr wd) A2 (pyIter v) Q2 E2 ⟨hp, gn, dr, tk, os⟩ := fun z => B.iter pr wd _ _ ⟨hp, gn, dr, tk, os⟩ _ g1 z
    wp_walk using go
    refine wpAny_stack_any fun sk => wpAny_pure ?_
    split
    · rename_i cl _ _ _ _ _
      cases (cl == Value.type "enumerate") <;> (wp_walk using go; exact ⟨_, rfl, g2⟩)
    · wp_walk using go
      exact ⟨_, rfl, g2⟩
section
variable {pr : Program} {wd : World} {Ar : Around} {Ex : Value → Shared → Prop} {st : Shared}
theorem en_call {v : Value} {ob : Obj} {G : Heap → Prop} {Q : Value → Shared → Prop} (B : Begins v ob G) (g : G st.heap)
    (k : ∀ hp, IsEnum hp (st.heap.objs.size + 1) st.heap.objs.size 0 .none → hp.get? st.heap.objs.size = some ob → (∀ b u, st.heap.get? b = some u → hp.get? b = some u) → Q (.ref (st.heap.objs.size + 1)) { st with heap := hp }) :
    wpAny (model pr wd) Ar (call (.type "enumerate") [v]) Q Ex st := by
  refine callType_new F.called_enumerate (by decide) (F.typeCall_enumerate_1 _) (F.newCall_enumerate_1 _) (fun z => F.args_object_init_2 z _)
    F.entry_enumerate_new (en_new B) ⟨g, ?_⟩
  have sz : (st.heap.push ob).objs.size = st.heap.objs.size + 1 := Heap.size_push ..
  have en : IsEnum ((st.heap.push ob).push (enO st.heap.objs.size)) (st.heap.objs.size + 1) st.heap.objs.size 0 .none := by
    rw [← sz]
    exact Heap.get?_push_size (st.heap.push ob) rfl
  show _ ∧ _
  rw [sz]
  exact ⟨⟨_, en, rfl⟩, k _ en (Heap.get?_push_of_some _ (Heap.get?_push_size _ B.free)) fun b u z => Heap.get?_push_of_some _ (Heap.get?_push_of_some _ z)⟩
end
/-- the tuple at a, in new pairs with the numbers -/
def ItE (K : PySem.W.Frag) (a : Addr) : It where
  go := fun i H => ∃ (xs : List V) (x : V), SqT K H a xs ∧ xs[i]? = some x
  yld := fun i H v H2 => ∃ (N : Addr) (x : V), v = .ref N ∧ H N = none ∧ H2 = upd H N (.tup [.int ((i : Nat) : Int), x]) ∧ ∀ xs : List V, SqT K H a xs → xs[i]? = some x
  stop := fun i H => ∃ xs : List V, SqT K H a xs ∧ i = xs.length
theorem two_ne {h : Heap} {a b : Addr} {o u : Obj} (ha : h.get? a = some o) (hb : h.get? b = some u) (hc : o.cls ≠ u.cls) : a ≠ b := fun z => by
  subst z
  rw [ha] at hb
  exact hc (congrArg Obj.cls (Option.some.inj hb))
theorem turn_enT {P : Program} {w : World} {K : PySem.W.Frag} {es : List Expr} {n : Nat} {q : Pos} (a e i1 : Addr) :
    Turn P w K (.Tuple es n q) (ItE K a) [e, i1] e (fun i h => (∃ z, IsEnum h e i1 ((i : Nat) : Int) z) ∧ h.IsTupleIter i1 a i ∧ e ≠ i1) where
  mem := List.mem_cons_self ..
  obj := fun i h tn b hb => by
    obtain ⟨⟨z, he⟩, ⟨o, ho, _, hd⟩, _⟩ := tn
    rcases List.mem_cons.mp hb with rfl | hb
    · exact ⟨_, he, nofun⟩
    · rw [List.mem_singleton.mp hb]
      exact ⟨o, ho, fun v y => by rw [hd] at y; cases y⟩
  keep := fun i h h2 tn k => by
    obtain ⟨⟨z, he⟩, hi, ne⟩ := tn
    exact ⟨⟨z, k e (by simp) _ he⟩, hi.at fun o y => k i1 (by simp) o y, ne⟩
  item := by
    intro X e1 e2 e3 cm i pins s σ H Ex I fp tn gg
    subst e1 e2 e3
    obtain ⟨⟨z, he⟩, hi, ne⟩ := tn
    obtain ⟨xs, x, sq, hx⟩ := gg
    obtain ⟨its, rv, tp, _⟩ := I.tuple sq
    obtain ⟨u, hu, ru⟩ := rv.get hx
    have tp' : s.heap.IsTuple a its.toArray := tp
    obtain ⟨o1, ho1, hc1, _⟩ := id tp'
    obtain ⟨o2, ho2, hc2, _⟩ := id hi
    have ai : a ≠ i1 := two_ne ho1 ho2 (by rw [hc1, hc2]; exact (by simp))
    have ea : e ≠ a := two_ne he ho1 (by rw [hc1]; exact (by simp))
    have el := Heap.lt_size he
    have il := Heap.lt_size ho2
    have lt : i < its.toArray.size := by
      have := (List.getElem?_eq_some_iff.mp hu).1
      simpa using this
    have D : Draws X.prog X.w X.A.in1 i1 [i1, a] its.toArray.size (fun j v => its.toArray[j]? = some v) (fun j hp => hp.IsTupleIter i1 a j ∧ hp.IsTuple a its.toArray) := Draws.tuple (A := X.A.in1) (show X.A.in1.handled = none from I.ok.hd cm) i1 a ai its.toArray
    refine wpAny_pyNext_enum_itemD D he ⟨hi, tp'⟩ lt ne (by simp; exact ⟨ne, ea⟩) fun u2 h2 tk hu2 out hs2 hT _ kp => ?_
    have : u2 = u := by
      have y : its.toArray[i]? = some u2 := hu2
      rw [List.getElem?_toArray, hu] at y
      exact (Option.some.inj y).symm
    subst this
    refine ⟨_, rfl, wpAny_letOwnedTupleGo_enum (s := { s with heap := h2, toks := tk + 1 }) out fun h3 he3 sb => ?_⟩
    have hT3 : h3.get? s.heap.objs.size = some { cls := .type "tuple", data := .seq #[.int i tk, u2] } := (sb.2 _ (Nat.ne_of_gt el)).trans hT
    have ok : ObjOk X.prog X.w (upd H s.heap.objs.size (.tup [.int ((i : Nat) : Int), x])) h3 s.heap.objs.size (.tup [.int ((i : Nat) : Int), x]) :=
      ⟨Nat.le_of_ble_eq_true rfl, [.int i tk, u2], .cons ⟨_, rfl⟩ (.cons ru .nil), ⟨_, hT3, rfl, _, rfl⟩⟩
    have I3 : L2.Inv X pins σ (upd H s.heap.objs.size (.tup [.int ((i : Nat) : Int), x])) { s with heap := h3, toks := tk + 1 } :=
      I.turnedNew (ch := [e, i1]) (fun b o nb y => by
        have b1 : b ≠ e := fun y => nb (by simp [y])
        have b2 : b ≠ i1 := fun y => nb (by simp [y])
        exact (sb.2 b b1).trans (kp b o b1 b2 y)) fp (Nat.le_refl _) ok
    refine ⟨.ref s.heap.objs.size, _, I3, rfl, ⟨_, x, rfl, I.hok.fresh (Nat.le_refl _), rfl, fun ys sy => by rw [I.tuple_inj sy sq]; exact hx⟩, ⟨⟨u2, ?_⟩, hs2.1.at fun o y => (sb.2 i1 (Ne.symm ne)).trans y, ne⟩, fun b hb => ?_⟩
    · have c : (((i + 1 : Nat)) : Int) = (i : Int) + 1 := Int.natCast_succ i
      rw [c]
      exact he3
    · have lb : b < s.heap.objs.size := by
        rcases List.mem_cons.mp hb with rfl | hb
        · exact el
        · rw [List.mem_singleton.mp hb]; exact il
      rw [upd_ne (Nat.ne_of_lt lb)]
      exact (fp b hb).1
  done := by
    intro X e1 e2 e3 cm i pins s σ H Ex I fp tn gg
    subst e1 e2 e3
    obtain ⟨⟨z, he⟩, hi, ne⟩ := tn
    obtain ⟨xs, sq, hx⟩ := gg
    obtain ⟨its, rv, tp, _⟩ := I.tuple sq
    have tp' : s.heap.IsTuple a its.toArray := tp
    obtain ⟨o1, ho1, hc1, _⟩ := id tp'
    obtain ⟨o2, ho2, hc2, _⟩ := id hi
    have ai : a ≠ i1 := two_ne ho1 ho2 (by rw [hc1, hc2]; exact (by simp))
    have D : Draws X.prog X.w X.A.in1 i1 [i1, a] its.toArray.size (fun j v => its.toArray[j]? = some v) (fun j hp => hp.IsTupleIter i1 a j ∧ hp.IsTuple a its.toArray) := Draws.tuple (A := X.A.in1) (show X.A.in1.handled = none from I.ok.hd cm) i1 a ai its.toArray
    have ln := rv.length
    have is : its.toArray.size = i := by simp; omega
    obtain ⟨f0, f1, _, f3, f4, f5⟩ := fp i1 (by simp)
    exact wpAny_pyNext_enum_endD D he (by rw [is]; exact ⟨hi, tp'⟩) fun h2 eb => ⟨rfl, I.turned (t' := s.toks) (fun b o nb y => eb b o nb y) f0 f1 f3 f4 f5⟩
  self := fun A i s Q Ex tn k => by
    obtain ⟨⟨z, he⟩, _⟩ := tn
    exact wpAny_pyIter_enum he k
def iEnT (K : PySem.W.Frag) (ta : TA) : TI := fun σ H R => ta σ H fun vs H1 => ∃ (a : Addr) (xs : List V), vs = [.ref a] ∧ SqT K H1 a xs ∧ R (ItE K a) H1
theorem pi_enT {X : Cx} {ex : Expr} {ta : TA} {p1 p2 p3 : Pos} {es : List Expr} {n : Nat} (hg : Gl X "enumerate") (hm : X.mg "enumerate" = none) (ha : PA X [ex] ta) (hs : starEach [ex] X.env = [(false, eval ex X.env)] := by rfl) :
    PI X (.Tuple es n p3) (.Call (.Name "enumerate" p1) [ex] [] p2) (iEnT X.K ta) := by
  constructor
  intro pins s σ H R I h
  refine Call_ (ld_blt I hg hm boot_enumerate (PyProof.Rows.callWith_type1 (thn (ha.run p2 pins s σ H _ I h) ?_) hs rfl))
  rintro us s1 ⟨vs, H1, I1, r1, a, xs, rfl, sq, q⟩
  cases r1 with
  | cons r rr =>
    cases rr
    cases r
    obtain ⟨its, rv, tp, _⟩ := I1.tuple sq
    refine en_call (begins_tuple a its.toArray) tp fun hp he hi kp => wpAny_pyIter_enum he ?_
    have fr : ∀ b ∈ [s1.heap.objs.size + 1, s1.heap.objs.size], FpOk X pins H1 b := fun b hb => by
      have le : s1.heap.objs.size ≤ b := by
        rcases List.mem_cons.mp hb with rfl | hb
        · exact Nat.le_succ _
        · rw [List.mem_singleton.mp hb]
          exact Nat.le_refl _
      exact I1.fpOk le (I1.hok.fresh le)
    exact ⟨_, [s1.heap.objs.size + 1, s1.heap.objs.size], _, _, H1, rfl, I1.kept (t' := s1.toks) kp, turn_enT a _ _, ⟨⟨.none, he⟩, ⟨_, hi, rfl, rfl⟩, Nat.succ_ne_self _⟩, fr, q⟩
theorem walk_enT {K : PySem.W.Frag} {a : Addr} {xs : List V} : Walk (ItE K a) xs.length (fun H => SqT K H a xs) (YPair (fun i => some (V.int ((i : Nat) : Int))) (fun i => xs[i]?)) where
  goes := fun i H hi sq => ⟨xs, xs[i], sq, List.getElem?_eq_getElem hi⟩
  stops := fun H sq => ⟨xs, sq, rfl⟩
  yields := fun i H v H2 hi sq ⟨N, x, e, f, u, k⟩ => ⟨N, _, x, e, f, u, rfl, k xs sq⟩
section
variable {K : PySem.W.Frag} {te ta tb tc tl : TE} {tt : TT} {tA : TA} {ds : List SD} {ms : List MD} {R : RS} {t u : TS} {P : Po}
theorem s_forET {g : TG} {js : List Nat} (h : EA K tA ds ms fun as ms0 => ∃ es : List PyData, as = [.d (.tuple es)] ∧ ∃ Pv : Nat → List SD → List MD → Prop, Pv 0 ds ms0 ∧
      (∀ i e ds1 ms1, es[i]? = some e → Pv i ds1 ms1 → EG K g js (.d (.tuple [.int (i : Nat), e])) ds1 ms1 fun ds2 ms2 => S K t ds2 ms2 { P with nx := Pv (i + 1), ct := Pv (i + 1), bk := P.nx }) ∧ ∀ ds1 ms1, Pv es.length ds1 ms1 → P.nx ds1 ms1) :
    S K (tFor (iEnT K tA) g t) ds ms P := fun L M σ H hS hA D n r b c =>
  h L M σ H hS hA _ fun as vs H1 ms0 w a1 o ⟨es, ea, Pv, h0, hs, hd⟩ => by
    subst ea
    obtain ⟨v, t1, rfl, hv, rfl⟩ := o
    have hv' : Rp M H1 v (.tuple es) := hv
    cases hv' with
    | @tup a xs _ na ea rx =>
    refine ⟨a, xs, rfl, SqT.of ea, for_it walk_enT (fun i σ' H' => ∃ ds' ms', Wk L H1 H' ∧ Sl K L M σ' H' ds' ∧ At L M ms' H' ∧ Pv i ds' ms') ⟨ds, ms0, Wk.refl L H1, hS.mono hA w, a1, h0⟩ (fun i σ' H' _ ⟨_, _, w', _⟩ => SqT.of (w' a _ (fun z => na (a1.sub a z)) ea)) (fun i x σ' H' H2 hi ⟨ds', ms', w', s', a', p'⟩ y => ?_) (fun σ' H' ⟨ds', ms', w', s', a', p'⟩ => ?_)⟩
    · obtain ⟨N, c1, y1, rfl, hN, rfl, q1, q2⟩ := y
      cases q1
      obtain ⟨e, e1, e2⟩ := rx.get' q2
      have w2 : Wk L H' (upd H' N (.tup [.int (i : Nat), y1])) := Wk.new hN
      have a2 := a'.new (o := .tup [.int (i : Nat), y1]) hN
      have w3 := w'.trans w2
      refine hs i e ds' ms' e1 p' L M σ' _ (.ref N) (s'.mono a' w2) a2 (Rp.tup (a'.fresh hN) upd_same (.cons (.int _) (.cons (Rp.to (a1.wk w3) _ _ e2) .nil))) _ fun σ2 ds2 s2 _ h2 => ?_
      exact h2 L M σ2 _ s2 a2 _ (fun σ3 H3 ds3 ms3 w4 s3 a3 p3 => ⟨ds3, ms3, w3.trans w4, s3, a3, p3⟩) (r.on a2 (w.trans w3)) (n.on (w.trans w3)) (fun σ3 H3 ds3 ms3 w4 s3 a3 p3 => ⟨ds3, ms3, w3.trans w4, s3, a3, p3⟩)
    · rw [rx.length] at p'
      exact n σ' H' ds' ms' (w.trans w') s' a' (hd ds' ms' p')
end
end Hc

namespace Hc
open PySem PySem.Spec PyProof.Rows L2
/-! ### sorted(xs) of data -/
theorem vals_each : ∀ {bs : List (V × PyData)} {us : List Value}, Vals (bs.map Prod.fst) us → PySem.W.EachIs (fun (u : Value) (b : V × PyData) => RelV b.1 u) us bs
  | [], us, h => by cases h; exact .nil
  | b :: r, us, h => by
    cases h with
    | cons z y => exact .cons z (vals_each y)
theorem each_vals : ∀ {bs : List (V × PyData)} {us : List Value}, PySem.W.EachIs (fun (u : Value) (b : V × PyData) => RelV b.1 u) us bs → Vals (bs.map Prod.fst) us
  | [], us, h => by cases h; exact .nil
  | b :: r, us, h => by
    cases h with
    | cons z y => exact .cons z (each_vals y)
def rSortV (K : PySem.W.Frag) : List V → Hp → VK → Prop := fun vs H Q => ∃ (a : Addr) (bs : List (V × PyData)), vs = [.ref a] ∧ SqL K H a (bs.map Prod.fst) ∧ (∀ b ∈ bs, Dp K H b.1 b.2) ∧ PySem.W.AllAlike (bs.map Prod.snd) ∧ PySem.W.Sortable (bs.map Prod.snd) ∧
  (∀ b ∈ bs, b.2.depth ≤ 60) ∧ ∀ p, H p = none → Q (.ref p) (upd H p (.lst ((bs.mergeSort (PySem.W.dataLe false Prod.snd)).map Prod.fst)))
theorem cr_sortV {X : Cx} (hu : X.A.units + 64 < cLine) : CallR X (.builtin "sorted") (rSortV X.K) := by
  intro pins s σ H vs us Q I r h
  obtain ⟨a, bs, rfl, sq, hd, al, so, dp, q⟩ := h
  obtain ⟨its, rv, hl, hz⟩ := I.list sq
  rw [Vals.ref1 r]
  have e := vals_each rv
  have er : PySem.W.EachIs (fun (u : Value) (b : V × PyData) => ∃ as, Reads s.heap u b.2 as) its bs :=
    (PySem.W.each_mem e).mono fun u b ⟨z, m⟩ => Dp.reads I b.2 b.1 u (hd b m) z
  rw [List.length_map] at hz
  refine PySem.W.sorted_data hl.isList e er al so hz (fun b m => by have := dp b m; omega) fun out ln eo => ?_
  obtain ⟨ep, he⟩ := PyProof.Rows.sortedAll_at s.heap its out.toArray
  have lm : ((bs.mergeSort (PySem.W.dataLe false Prod.snd)).map Prod.fst).length ≤ sizeLine := by
    rw [List.length_map, List.length_mergeSort]
    exact hz
  exact ⟨.ref _, upd H (s.heap.objs.size + 1) (.lst ((bs.mergeSort (PySem.W.dataLe false Prod.snd)).map Prod.fst)), I.laid (t' := s.toks) (fun _ _ => PyProof.Rows.sortedAll_old) (Nat.le_succ _) ⟨lm, out, ep, each_vals eo, he⟩, rfl, q _ (I.hok.fresh (Nat.le_succ _))⟩
section
variable {K : PySem.W.Frag} {ds : List SD} {ms : List MD} {R : RS}
theorem zip_fst : ∀ {xs : List V} {es : List PyData}, xs.length = es.length → (List.zip xs es).map Prod.fst = xs
  | [], _, _ => rfl
  | _ :: _, [], h => by cases h
  | x :: xs, e :: es, h => by
    show x :: (List.zip xs es).map Prod.fst = _
    rw [zip_fst (by simpa using h)]
theorem zip_snd : ∀ {xs : List V} {es : List PyData}, xs.length = es.length → (List.zip xs es).map Prod.snd = es
  | [], [], _ => rfl
  | [], _ :: _, h => by cases h
  | _ :: _, [], h => by cases h
  | x :: xs, e :: es, h => by
    show e :: (List.zip xs es).map Prod.snd = _
    rw [zip_snd (by simpa using h)]
theorem rpa_zip {M : List Addr} {H : Hp} : ∀ {xs : List V} {es : List PyData}, RpA M H xs es → ∀ b ∈ List.zip xs es, Rp M H b.1 b.2
  | [], _, _, b, hb => by cases hb
  | x :: xs, es, h, b, hb => by
    cases h with
    | cons z y =>
      rcases List.mem_cons.mp hb with rfl | hb
      · exact z
      · exact rpa_zip y b hb
theorem rpa_of {M : List Addr} {H : Hp} : ∀ {bs : List (V × PyData)}, (∀ b ∈ bs, Rp M H b.1 b.2) → RpA M H (bs.map Prod.fst) (bs.map Prod.snd)
  | [], _ => .nil
  | b :: r, h => .cons (h b (by simp)) (rpa_of fun c hc => h c (by simp [hc]))
abbrev sortD (es : List PyData) : List PyData := es.mergeSort (PySem.W.dataLe false id)
theorem rc_sortD {as : List SD} (h : ∃ (s : SD) (es : List PyData), as = [s] ∧ Sv ms s (.list es) ∧ (∀ e ∈ es, Shp 60 e) ∧ PySem.W.AllAlike es ∧ PySem.W.Sortable es ∧ R (.f (sortD es)) ms) : RC K (rSortV K) as ms R := fun L M H vs hA ha Q q => by
  obtain ⟨s, es, rfl, sv, sh, al, so, r⟩ := h
  obtain ⟨v, t, rfl, hv, rfl⟩ := ha
  obtain ⟨p, xs, rfl, hq, hr⟩ := sv.lst hA hv
  have ln := hr.length
  have zr := rpa_zip hr
  have e2 : ((List.zip xs es).mergeSort (PySem.W.dataLe false Prod.snd)).map Prod.snd = sortD es := by
    have := PySem.W.sort_maps (r := PySem.W.dataLe false Prod.snd) (s := PySem.W.dataLe false id) (Prod.snd : V × PyData → PyData) (l := List.zip xs es) (fun a _ b _ => rfl)
    rw [this, zip_snd ln]
  refine ⟨p, List.zip xs es, rfl, by rw [zip_fst ln]; exact hq, fun b hb => ?_, by rw [zip_snd ln]; exact al, by rw [zip_snd ln]; exact so, fun b hb => ?_, fun l hl => ?_⟩
  · have m2 : b.2 ∈ es := by
      have : b.2 ∈ (List.zip xs es).map Prod.snd := List.mem_map.mpr ⟨b, hb, rfl⟩
      rwa [zip_snd ln] at this
    exact Rp.dp b.2 b.1 (sh _ m2).1 (zr b hb)
  · have m2 : b.2 ∈ es := by
      have : b.2 ∈ (List.zip xs es).map Prod.snd := List.mem_map.mpr ⟨b, hb, rfl⟩
      rwa [zip_snd ln] at this
    exact (sh _ m2).2
  · have rr : RpA M H (((List.zip xs es).mergeSort (PySem.W.dataLe false Prod.snd)).map Prod.fst) (sortD es) := by
      rw [← e2]
      exact rpa_of fun b hb => zr b (List.mem_mergeSort.mp hb)
    exact q (.f (sortD es)) _ _ ms (Wk.new hl) (out_new hA (Wk.refl L H) hl rr) r
end
end Hc

namespace Hc
open PySem PySem.Spec PyProof.Rows L2
section
variable {K : PySem.W.Frag} {te ta tb tc tl : TE} {tt : TT} {tA : TA} {ds : List SD} {ms : List MD} {R : RS} {t u : TS} {P : Po}
/-! ### in, over data -/
theorem rr_inD {a b : SD} (h : ∃ (x : PyData) (es : List PyData), Sv ms a x ∧ Sv ms b (.list es) ∧ SeqAt.shaped x = true ∧ SeqAt.shaped (.list es) = true ∧ R (.d (.bool (es.any fun z => PyData.eqv z x))) ms) : RR K (rInD K) a b ms R := fun L M H u v hA ha hb Q q => by
  obtain ⟨x, es, ea, eb, s1, s2, r⟩ := h
  exact ⟨x, es, ea.dp hA ha (SeqAt.canLay_of_shaped s1), eb.dp hA hb (SeqAt.canLay_of_shaped s2), s1, s2, q (.d _) _ H ms (Wk.refl L H) ⟨hA, .bl _⟩ r⟩
/-! ### for a, b in zip(xs, ys), two lists -/
/-! ### xs.insert(i, e) -/
/-! ### a part of a list, or of a tuple that may be the whole -/
theorem units65 {k : Nat} {A : Around} (h : Room k A) : A.units + 65 < cLine := by
  have := h.un
  omega
theorem pe_num {X : Cx} {x : Str} {n : Int} {pos : Pos} (hg : Gl X x) (h : ∃ t, X.mg x = some (.int n t)) (hdb : (x == ("__debug__" : Str)) = false := by decide) : PE X (.Name x pos) (tC (.int n)) := by
  obtain ⟨t, m⟩ := h
  exact pe_glob hg m ⟨_, rfl⟩ hdb
/-! ### a, b = t of a list or a tuple -/
def gRw (K : PySem.W.Frag) (n : Nat) (gs : TGs) : TG := fun v σ H C => gTup K n gs v σ H C ∨ gUnl K n gs v σ H C
theorem pg_rw {X : Cx} {pos : Pos} {es : List Expr} {k : Nat} {gs : TGs} {n : Nat} (hc : X.calm = true) (h : PGs X es gs) (h1 : (assignEach es X.env).length = n := by rfl) (h2 : List.findIdx? (fun x => x.fst) (assignEach es X.env) = none := by rfl) :
    PG X (.Tuple es k pos) (gRw X.K n gs) := ⟨fun pins s σ H v u Q I rv z => by
  rcases z with z | z
  · exact (pg_tup hc h h1 h2).run pins s σ H v u Q I rv z
  · exact (pg_unl hc h h1 h2).run pins s σ H v u Q I rv z⟩
theorem eg_rw {gs : TGs} {js : List Nat} {n : Nat} {x : PyData} {xs : List PyData} {N : List SD → List MD → Prop} (hx : x = .list xs ∨ x = .tuple xs) (hn : xs.length = n) (h : EGs K gs js xs ds ms N) : EG K (gRw K n gs) js (.d x) ds ms N := fun L M σ H v hS hA ho C c => by
  rcases hx with rfl | rfl
  · obtain ⟨a, ys, rfl, e, r⟩ := Sv.lst (ms := ms) (K := K) (L := L) (.d (.list xs)) hA ho
    exact .inr ⟨a, ys, rfl, e, by rw [r.length]; exact hn, h L M σ H ys hS hA r C c⟩
  · exact .inl (eg_tup hn h L M σ H v hS hA ho C c)
/-- for a, b in zip(xs, ys), whose body may raise -/
theorem sx_forZ {C : Addr} {Y : List MD → Prop} {g : TG} {js : List Nat} {t : XK → TS} (h : EA K tA ds ms fun as ms0 => ∃ (s1 s2 : SD) (es fs : List PyData), as = [s1, s2] ∧ Sw s1 es ∧ Sw s2 fs ∧ ∃ Pv : Nat → List SD → List MD → Prop, Pv 0 ds ms0 ∧
      (∀ i e f ds1 ms1, es[i]? = some e → fs[i]? = some f → Pv i ds1 ms1 → EG K g js (.d (.tuple [e, f])) ds1 ms1 fun ds2 ms2 => SX K C t ds2 ms2 { P with nx := Pv (i + 1), ct := Pv (i + 1), bk := P.nx } Y) ∧ ∀ ds1 ms1, Pv (min es.length fs.length) ds1 ms1 → P.nx ds1 ms1) :
    SX K C (fun X => tFor (iZip K tA) g (t X)) ds ms P Y := fun L M σ H hS hA D X n r b c xx =>
  h L M σ H hS hA _ fun as vs H1 ms0 w a1 o ⟨s1, s2, es, fs, ea, sw1, sw2, Pv, h0, hs, hd⟩ => by
    subst ea
    obtain ⟨v1, t1, rfl, hv1, v2, t2, rfl, hv2, rfl⟩ := o
    obtain ⟨a, xs, rfl, rx, hx⟩ := sw1.is a1 hv1
    obtain ⟨b', ys, rfl, ry, hy⟩ := sw2.is a1 hv2
    refine ⟨a, b', xs, ys, rfl, hx H1 (Wk.refl L H1), hy H1 (Wk.refl L H1), for_it (walk_zip rfl) (fun i σ' H' => ∃ ds' ms', Wk L H1 H' ∧ Sl K L M σ' H' ds' ∧ At L M ms' H' ∧ Pv i ds' ms') ⟨ds, ms0, Wk.refl L H1, hS.mono hA w, a1, h0⟩ (fun i σ' H' _ ⟨_, _, w', _⟩ => ⟨hx H' w', hy H' w'⟩) (fun i x σ' H' H2 hi ⟨ds', ms', w', s', a', p'⟩ y => ?_) (fun σ' H' ⟨ds', ms', w', s', a', p'⟩ => ?_)⟩
    · obtain ⟨N, x1, y1, rfl, hN, rfl, q1, q2⟩ := y
      obtain ⟨e, e1, e2⟩ := rx.get' q1
      obtain ⟨f, f1, f2⟩ := ry.get' q2
      have w2 : Wk L H' (upd H' N (.tup [x1, y1])) := Wk.new hN
      have a2 := a'.new (o := .tup [x1, y1]) hN
      have w3 := w'.trans w2
      refine hs i e f ds' ms' e1 f1 p' L M σ' _ (.ref N) (s'.mono a' w2) a2 (Rp.tup (a'.fresh hN) upd_same (.cons (Rp.to (a1.wk w3) _ _ e2) (.cons (Rp.to (a1.wk w3) _ _ f2) .nil))) _ fun σ2 ds2 s2 _ h2 => ?_
      exact h2 L M σ2 _ s2 a2 _ X (fun σ3 H3 ds3 ms3 w4 s3 a3 p3 => ⟨ds3, ms3, w3.trans w4, s3, a3, p3⟩) (r.on a2 (w.trans w3)) (n.on (w.trans w3)) (fun σ3 H3 ds3 ms3 w4 s3 a3 p3 => ⟨ds3, ms3, w3.trans w4, s3, a3, p3⟩) (xx.on (w.trans w3))
    · rw [rx.length, ry.length] at p'
      exact n σ' H' ds' ms' (w.trans w') s' a' (hd ds' ms' p')
end
end Hc

namespace Hc
open PySem PySem.Spec PyProof.Rows L2
/-! ### xs[::2], xs[1::2] -/
def ev2 {α : Type} : List α → List α
  | [] => []
  | [a] => [a]
  | a :: _ :: r => a :: ev2 r
theorem ev2_len {α : Type} : ∀ l : List α, (ev2 l).length = (l.length + 1) / 2
  | [] => by simp [ev2]
  | [a] => by simp [ev2]
  | a :: b :: r => by simp only [ev2, List.length_cons, ev2_len r]; omega
theorem ev2_range {α : Type} : ∀ l : List α, (List.range ((l.length + 1) / 2)).filterMap (fun k => l[2 * k]?) = ev2 l
  | [] => by simp [ev2]
  | [a] => by simp [ev2, List.range_succ]
  | a :: b :: r => by
    have e : ((a :: b :: r).length + 1) / 2 = (r.length + 1) / 2 + 1 := by simp only [List.length_cons]; omega
    rw [e, List.range_succ_eq_map, List.filterMap_cons]
    rw [ev2, ← ev2_range r, List.filterMap_map]
    rfl
/-- what a part with these three marks picks -/
def pk {α : Type} (l : List α) (lo hi st : Option Int) : List α := (sliceRange (sliceBounds lo hi st l.length).1 (sliceBounds lo hi st l.length).2.1 (sliceBounds lo hi st l.length).2.2).filterMap fun k => l[k]?
theorem pk_arr (us : List Value) (lo hi st : Option Int) : slicePick us.toArray lo hi st = (pk us lo hi st).toArray := by
  unfold slicePick pk
  simp only [List.size_toArray, List.getElem?_toArray]
theorem fm_congr {α : Type} (f g : Nat → Option α) : ∀ l : List Nat, (∀ k ∈ l, f k = g k) → l.filterMap f = l.filterMap g
  | [], _ => rfl
  | a :: r, h => by rw [List.filterMap_cons, List.filterMap_cons, h a (by simp), fm_congr f g r fun k hk => h k (by simp [hk])]
theorem pk_step {α : Type} (l : List α) (j : Nat) (hj : j ≤ 1) : pk l (if j = 0 then none else some (j : Int)) none (some 2) = ev2 (l.drop j) := by
  have hb : sliceBounds (if j = 0 then none else some (j : Int)) none (some 2) l.length = (((min j l.length : Nat) : Int), (l.length : Int), (2 : Int)) := by
    unfold sliceBounds
    by_cases h : j = 0
    · subst h; simp
    · have : j = 1 := by omega
      subst this
      simp
      omega
  unfold pk
  rw [hb]
  have hl : (l.drop j).length = l.length - j := by simp
  rw [← ev2_range, hl]
  have hc : sliceRange ((min j l.length : Nat) : Int) (l.length : Int) 2 = (List.range ((l.length - j + 1) / 2)).map fun k => min j l.length + 2 * k := by
    unfold sliceRange
    have e1 : (if (2 : Int) > 0 then (if ((min j l.length : Nat) : Int) < (l.length : Int) then ((l.length : Int) - ((min j l.length : Nat) : Int) + 2 - 1) / 2 else 0) else (if ((min j l.length : Nat) : Int) > (l.length : Int) then (((min j l.length : Nat) : Int) - (l.length : Int) - 2 - 1) / (-2) else 0)).toNat = (l.length - j + 1) / 2 := by
      rw [if_pos (by decide)]
      split <;> omega
    show (List.range _).map _ = _
    rw [e1]
    apply List.map_congr_left
    intro k _
    omega
  show (sliceRange ((min j l.length : Nat) : Int) (l.length : Int) 2).filterMap _ = _
  rw [hc, List.filterMap_map]
  refine fm_congr _ _ _ fun k hk => ?_
  have hk2 := List.mem_range.mp hk
  have hm : min j l.length = j := by omega
  show l[min j l.length + 2 * k]? = (l.drop j)[2 * k]?
  rw [hm, List.getElem?_drop]
theorem vals_pick {xs : List V} {us : List Value} (r : Vals xs us) : ∀ ks : List Nat, Vals (ks.filterMap fun k => xs[k]?) (ks.filterMap fun k => us[k]?)
  | [] => .nil
  | k :: t => by
    have ih := vals_pick r t
    have hl := r.length
    cases e : xs[k]? with
    | none =>
      have e2 : us[k]? = none := by
        rw [List.getElem?_eq_none_iff] at e ⊢
        omega
      rw [List.filterMap_cons, List.filterMap_cons, e, e2]
      exact ih
    | some x =>
      obtain ⟨u, e2, ru⟩ := r.get e
      rw [List.filterMap_cons, List.filterMap_cons, e, e2]
      exact .cons ru ih
/-- an expression, asked for less -/
theorem pe_weak {X : Cx} {e : Expr} {te : TE} (he : PE X e te) : PE X e fun σ H Q => ∃ R : VK, te σ H R ∧ ∀ x H1, R x H1 → Q x H1 := by
  constructor
  rintro pins s σ H Q I ⟨R, h, m⟩
  refine thn (he.run pins s σ H R I h) ?_
  rintro v s1 ⟨x, H1, I1, rx, r1⟩
  exact ⟨x, H1, I1, rx, m x H1 r1⟩
/-- xs[a:b:c] of a list, whatever the three are -/
def tSl3 (K : PySem.W.Frag) (te : TE) (tl tu tc : TO) : TE := fun σ H Q => te σ H fun x H1 => tl σ H1 fun lo H2 => tu σ H2 fun hi H3 => tc σ H3 fun st H4 =>
  ∃ a xs, x = .ref a ∧ st ≠ some 0 ∧ SqL K H4 a xs ∧ (xs.length ≤ sizeLine → (pk xs lo hi st).length ≤ sizeLine) ∧ ∀ p, H4 p = none → Q (.ref p) (upd H4 p (.lst (pk xs lo hi st)))
theorem pe_slL3 {X : Cx} {e : Expr} {te : TE} {lo hi : Option Expr} {ce : Expr} {tl tu tc : TO} {p3 pos : Pos} (he : PE X e te) (hl : PO X lo tl) (hu : PO X hi tu) (hc : PO X (some ce) tc) : PE X (.Subscript e (.Slice lo hi (some ce) p3) pos) (tSl3 X.K te tl tu tc) := by
  constructor
  intro pins s0 σ H0 Q I0 h0
  refine Subscript_ (thn (he.run pins s0 σ H0 _ I0 h0) ?_)
  rintro v s1 ⟨x, H1, I1, rx, h1⟩
  refine wpAny_Slice (thn (hl.run pins s1 σ H1 _ I1 h1) ?_)
  rintro vl s2 ⟨ol, H2, I2, il, h2⟩
  refine thn (hu.run pins s2 σ H2 _ I2 h2) ?_
  rintro vu s3 ⟨ou, H3, I3, iu, h3⟩
  refine thn (hc.run pins s3 σ H3 _ I3 h3) ?_
  rintro vc s4 ⟨oc, H4, I4, ic, a, xs, ex, nz, sq, zp, q⟩
  subst ex
  cases rx
  have kp : ∀ b u, s4.heap.get? b = some u → (s4.heap.push { cls := .type "slice", data := .fields #[vl, vu, vc] }).get? b = some u := fun b u z => Heap.get?_push_of_some _ z
  have I5 := I4.kept (t' := s4.toks) kp
  obtain ⟨its, rv, lst, zl⟩ := I5.list sq
  have ln := rv.length
  refine tail_any (ops := [.ref a, .ref s4.heap.objs.size]) lst.isList.typeIs PySem.slot_list_getitem.lookup ?_ (by with_unfolding_all rfl)
  refine wpAny_getItem_list_slice (st := oc) lst.isList (Heap.IsSliceOf.new _ vl vu vc) il iu ic nz ?_ (by simp only [List.size_toArray]; omega)
  rw [pk_arr]
  have rp : Vals (pk xs ol ou oc) (pk its ol ou oc) := by
    unfold pk
    rw [ln]
    exact vals_pick rv _
  have new := I5.laid (t' := s4.toks) (a := (s4.heap.push { cls := .type "slice", data := .fields #[vl, vu, vc] }).objs.size) (o := .lst (pk xs ol ou oc)) (fun b u z => Heap.get?_push_of_some _ z) (Nat.le_refl _) ⟨zp zl, _, 0, rp, Heap.get?_push_size _ rfl⟩
  exact ⟨.ref _, _, new, rfl, q _ (I5.hok.fresh (Nat.le_refl _))⟩
def tStep (K : PySem.W.Frag) (j : Nat) (te : TE) : TE := fun σ H Q => te σ H fun x H1 => ∃ a xs, x = .ref a ∧ SqL K H1 a xs ∧ ∀ p, H1 p = none → Q (.ref p) (upd H1 p (.lst (ev2 (xs.drop j))))
theorem step_len (xs : List V) (j : Nat) (h : xs.length ≤ sizeLine) : (ev2 (xs.drop j)).length ≤ sizeLine := by
  rw [ev2_len, List.length_drop]
  omega
theorem pe_step0 {X : Cx} {e : Expr} {te : TE} {k : Nat} {p1 p3 pos : Pos} (he : PE X e te) : PE X (.Subscript e (.Slice none none (some (.Constant (.int 2) k p1)) p3) pos) (tStep X.K 0 te) := by
  constructor
  intro pins s σ H Q I h
  refine (pe_slL3 (pe_weak he) po_none po_none (po_some (pe_int (i := 2)))).run pins s σ H Q I ⟨_, h, ?_⟩
  rintro x H1 ⟨a, xs, ex, sq, q⟩
  have e0 : pk xs none none (some 2) = ev2 (xs.drop 0) := pk_step xs 0 (by decide)
  exact ⟨2, rfl, a, xs, ex, by decide, sq, by rw [e0]; exact step_len xs 0, by rw [e0]; exact q⟩
theorem pe_step1 {X : Cx} {e : Expr} {te : TE} {k k0 : Nat} {p0 p1 p3 pos : Pos} (he : PE X e te) : PE X (.Subscript e (.Slice (some (.Constant (.int 1) k0 p0)) none (some (.Constant (.int 2) k p1)) p3) pos) (tStep X.K 1 te) := by
  constructor
  intro pins s σ H Q I h
  refine (pe_slL3 (pe_weak he) (po_some (pe_int (i := 1))) po_none (po_some (pe_int (i := 2)))).run pins s σ H Q I ⟨_, h, ?_⟩
  rintro x H1 ⟨a, xs, ex, sq, q⟩
  have e0 : pk xs (some 1) none (some 2) = ev2 (xs.drop 1) := pk_step xs 1 (by decide)
  exact ⟨1, rfl, 2, rfl, a, xs, ex, by decide, sq, by rw [e0]; exact step_len xs 1, by rw [e0]; exact q⟩
section
variable {K : PySem.W.Frag} {te ta tb tc tl : TE} {tt : TT} {tA : TA} {ds : List SD} {ms : List MD} {R : RS} {t u : TS} {P : Po}
theorem RpA.ev2 {M : List Addr} {H : Hp} : ∀ {xs : List V} {es : List PyData}, RpA M H xs es → RpA M H (ev2 xs) (ev2 es)
  | _, _, .nil => .nil
  | _, _, .cons a .nil => .cons a .nil
  | _, _, .cons a (.cons _ r) => .cons a (RpA.ev2 r)
theorem e_step {j : Nat} (h : E K ta ds ms fun s ms1 => ∃ es, Sv ms1 (dd s) (.list es) ∧ R (.f (Hc.ev2 (es.drop j))) ms1) : E K (tStep K j ta) ds ms R := fun L M σ H hS hA Q q =>
  h L M σ H hS hA _ fun s v H1 ms1 w o ⟨es, sv, r⟩ => by
    have a1 := o.at
    obtain ⟨p, xs, rfl, hq, hr⟩ := sv.lst a1 o.sl
    exact ⟨p, xs, rfl, hq, fun l hl => q (.f (Hc.ev2 (es.drop j))) _ _ ms1 (w.trans (Wk.new hl)) (out_new a1 w hl (hr.drop j).ev2) r⟩
/-! ### a list or a tuple as a test -/
def tTru (K : PySem.W.Frag) (te : TE) : TT := fun σ H Q => te σ H fun x H' => ∃ k, TruV K x H' k ∧ Q k H'
theorem pt_tru {X : Cx} {a : Expr} (ha : PE X a ta) (he : ∀ whole, isTrue a X.env whole = (do let v ← whole; standAt a.pos; holding [v] (truthy v)) := by intro _; rfl) : PT X a (tTru X.K ta) := pt_truth ha he
theorem et_tru {RB : Bool → List MD → Prop} (h : E K te ds ms fun s ms1 => ∃ es : List PyData, (Sv ms1 (dd s) (.list es) ∨ Sv ms1 (dd s) (.tuple es)) ∧ RB (!es.isEmpty) ms1) : ET K (tTru K te) ds ms RB := fun L M σ H hS hA Q q =>
  h L M σ H hS hA _ fun s v H1 ms1 w o ⟨es, sv, r⟩ => by
    have a1 := o.at
    have em : ∀ {xs : List V}, RpA M H1 xs es → xs.isEmpty = es.isEmpty := fun {xs} h => by
      cases h <;> rfl
    rcases sv with sv | sv
    · obtain ⟨p, xs, rfl, hq, hr⟩ := sv.lst a1 o.sl
      exact ⟨_, .inl ⟨xs, hq, rfl⟩, by rw [em hr]; exact q _ H1 ms1 w a1 r⟩
    · obtain ⟨p, xs, rfl, hq, hr⟩ := sv.tup o.sl
      exact ⟨_, .inr (.inl ⟨xs, SqT.of hq, rfl⟩), by rw [em hr]; exact q _ H1 ms1 w a1 r⟩
/-- over zip(xs, ys) of two lists -/
theorem e_lcZL {g : TG} {js vs : List Nat} (hj : ∀ j ∈ js, j ∈ vs) (h : EA K tA ds ms fun as ms0 => ∃ (s1 s2 : SD) (es fs : List PyData), as = [s1, s2] ∧ Sw s1 es ∧ Sw s2 fs ∧ es.length ≤ 10000 ∧ ∃ Pv : Nat → List PyData → List MD → Prop, Pv 0 [] ms0 ∧
      (∀ i e f acc ms1, es[i]? = some e → fs[i]? = some f → Pv i acc ms1 → Lt K g js tt te vs ds (.d (.tuple [e, f])) ms1 acc (Pv (i + 1))) ∧ ∀ acc ms1, Pv (min es.length fs.length) acc ms1 → R (.f acc) ms1) :
    E K (tLc (RZ.iZipA K tA) g tt te vs) ds ms R := fun L M σ H hS hA Q q =>
  h L M σ H hS hA _ fun as us H1 ms0 w a1 o ⟨s1, s2, es, fs, ea, sw1, sw2, hz, Pv, h0, hs, hd⟩ => by
    subst ea
    obtain ⟨v1, t1, rfl, o1, v2, t2, rfl, o2, rfl⟩ := o
    obtain ⟨a, xs, rfl, rx, hx⟩ := sw1.is a1 o1
    obtain ⟨b, ys, rfl, ry, hy⟩ := sw2.is a1 o2
    refine ⟨a, b, xs, ys, rfl, .inl ⟨hx H1 (Wk.refl L H1), hy H1 (Wk.refl L H1), fun D hD => ?_⟩⟩
    have hDL := a1.freshL hD
    refine ⟨fun i m H' => m = min es.length fs.length - i ∧ i ≤ min es.length fs.length ∧ ∃ acc ms', Cs L M H1 D i acc ms' H' ∧ Pv i acc ms', ⟨_, rfl, Nat.zero_le _, [], ms0, .start a1 hD, h0⟩, ?_⟩
    rintro i m H' ⟨rfl, hi, acc, ms', c, p⟩
    have qx := hx H' c.w
    have qy := hy H' c.w
    by_cases hlt : i < min es.length fs.length
    · have l1 : i < xs.length := by rw [rx.length]; omega
      have l2 : i < ys.length := by rw [ry.length]; omega
      refine .inr ⟨⟨xs, ys, xs[i], ys[i], qx, qy, by simp [l1], by simp [l2]⟩, fun H2 => ∃ acc' ms2, Cs L M H1 D (i + 1) acc' ms2 H2 ∧ Pv (i + 1) acc' ms2, fun H2 ⟨acc', ms2, c2, p2⟩ => ⟨min es.length fs.length - (i + 1), by omega, rfl, hlt, acc', ms2, c2, p2⟩, fun v H2 y => ?_⟩
      obtain ⟨T, x, y, rfl, hT, rfl, fx, fy⟩ := y
      obtain ⟨e, e1, e2⟩ := rx.get' (fx xs qx)
      obtain ⟨f, f1, f2⟩ := ry.get' (fy ys qy)
      have c2 := c.new (o := .tup [x, y]) hT
      have tt2 : To M (M ++ [D]) H1 (upd H' T (.tup [x, y])) := to_new a1 hD c2.w
      have ho : SlOk K L (M ++ [D]) (upd H' T (.tup [x, y])) (.d (.tuple [e, f])) (.ref T) := Rp.tup (c.a.fresh hT) upd_same (.cons (Rp.to tt2 _ _ e2) (.cons (Rp.to tt2 _ _ f2) .nil))
      exact lc_turn2 (x := .d (.tuple [e, f])) (v := .ref T) (Nn := Pv) hj (by omega) (hS.mono hA w) a1 hD c2 ho (hs i e f acc ms' e1 f1 p)
    · have e : i = min es.length fs.length := by omega
      subst e
      refine .inl ⟨⟨xs, ys, qx, qy, by rw [rx.length, ry.length]; omega⟩, ?_⟩
      exact q (.f acc) _ H' ms' (w.trans c.w) ⟨D, rfl, none_back a1 w (a1.fresh hD) hD, a1.fresh hD, c.done a1.sub hDL, a1.sub⟩ (hd acc ms' p)
end
end Hc

namespace Hc
open PySem PySem.Spec PyProof.Rows L2
section
variable {K : PySem.W.Frag} {te ta tb tc tl : TE} {tt : TT} {tA tB : TA} {ds : List SD} {ms : List MD} {R : RS} {t u : TS} {P : Po}
/-- the first two together -/
theorem s_assoc {v : TS} (h : S K (tSeq (tSeq t u) v) ds ms P) : S K (tSeq t (tSeq u v)) ds ms P := h
end
/-! ### sorted rows -/
theorem totalD : PySem.W.TotalLe (PySem.W.dataLe false (id : PyData → PyData)) := PySem.W.sortLe_total _ _ _
theorem sort_strict {m l : List PyData} (hm : m.Pairwise fun a b => PySem.W.dataLe false id a b = true ∧ PySem.W.dataLe false id b a = false) (hp : l.Perm m) : sortD l = m := by
  refine (PySem.W.sort_unique totalD (hm.imp fun h => h.1) fun c => ?_).symm
  have p2 := hp.filter (PySem.W.sameRank (PySem.W.dataLe false id) c)
  have pw : (m.filter (PySem.W.sameRank (PySem.W.dataLe false id) c)).Pairwise fun a b => PySem.W.dataLe false id a b = true ∧ PySem.W.dataLe false id b a = false := hm.filter _
  have al : ∀ x ∈ m.filter (PySem.W.sameRank (PySem.W.dataLe false id) c), PySem.W.sameRank (PySem.W.dataLe false id) c x = true := fun x hx => (List.mem_filter.mp hx).2
  generalize m.filter (PySem.W.sameRank (PySem.W.dataLe false id) c) = f at *
  match f, pw, al with
  | [], _, _ => exact (List.Perm.eq_nil p2).symm
  | [x], _, _ => exact (List.perm_singleton.mp p2).symm
  | x :: y :: r, pw, al =>
    have h1 := (List.pairwise_cons.mp pw).1 y (by simp)
    have hx := al x (by simp)
    have hy := al y (by simp)
    unfold PySem.W.sameRank at hx hy
    rw [Bool.and_eq_true] at hx hy
    have : PySem.W.dataLe false id y x = true := by
      first
        | exact totalD.trans y c x hy.2 hx.1
        | exact totalD.trans y c x hy.1 hx.2
    rw [this] at h1
    cases h1.2
theorem tri_lt (i j i' j' : Int) (w w' : PyData) (ha : PySem.W.alike w w' = true) : PySem.W.dataLt (.tuple [.int i, .int j, w]) (.tuple [.int i', .int j', w']) = if i = i' then (if j = j' then (if PyData.eqv w w' = true then false else PySem.W.dataLt w w') else decide (j < j')) else decide (i < i') := by
  rw [PySem.W.dataLt_tuple, PySem.W.dataLt_cons (by simp [PySem.W.alike]), PySem.W.dataLt_cons (by simp [PySem.W.alike]), PySem.W.dataLt_cons ha, PySem.W.dataLt_int, PySem.W.dataLt_int, eqv_int, eqv_int]
  have e : PyProof.Rows.lexLt PyProof.Rows.itemOrd (PySem.W.keyToksAll []) (PySem.W.keyToksAll []) = false := PyProof.Rows.lex_irrefl _
  rw [e]
  by_cases h1 : i = i' <;> by_cases h2 : j = j' <;> simp [h1, h2]
end Hc

namespace Hc
open PySem PySem.Spec PyProof.Rows L2
/-! ### lists of lists that may change -/
section
variable {K : PySem.W.Frag} {L M qs : List Addr} {ms1 xs : List MD} {H H' : Hp}
theorem to_lessAll : To (M ++ qs) M H H := fun a o n e => ⟨fun z => n (List.mem_append_left _ z), e⟩
theorem At.dropAll (h : At (L ++ qs) (M ++ qs) (ms1 ++ xs) H) (hx : qs.length = xs.length) (hl : ∀ q ∈ L, q ∈ M) : At L M ms1 H := by
  have hn : L.length = ms1.length := by
    have := h.ln
    simp at this
    omega
  refine ⟨(List.nodup_append.mp h.nd).1, hl, fun q hq => h.al q (List.mem_append_left _ hq), hn, fun k q x e1 e2 => ?_⟩
  have h1 : k < L.length := (List.getElem?_eq_some_iff.mp e1).1
  have h2 : k < ms1.length := (List.getElem?_eq_some_iff.mp e2).1
  exact (h.ok k q x (by rw [List.getElem?_append_left h1]; exact e1) (by rw [List.getElem?_append_left h2]; exact e2)).toL to_lessAll (fun k' q' hlt z => by rw [List.getElem?_append_left (by omega)] at z; exact z) rfl
/-- the rows' own mutables, and the list of them -/
def rowsM (n : Nat) (ess : List (List PyData)) : List MD := ess.map MD.l ++ [.r (List.range' n ess.length)]
def frzLS (n : Nat) (ess : List (List PyData)) : SD → SD
  | .m k => if k < n then .m k else if k = n + ess.length then .d (.list (ess.map .list)) else .d (.list (ess.getD (k - n) []))
  | s => s
theorem rows_len (n : Nat) (ess : List (List PyData)) : (rowsM n ess).length = ess.length + 1 := by simp [rowsM]
theorem RpA.ofGet : ∀ {xs : List V} {ds : List PyData}, xs.length = ds.length → (∀ (i : Nat) (v : V) (d : PyData), xs[i]? = some v → ds[i]? = some d → Rp M H v d) → RpA M H xs ds
  | [], [], _, _ => .nil
  | [], _ :: _, h, _ => by cases h
  | _ :: _, [], h, _ => by cases h
  | x :: xs, d :: ds, h, f => .cons (f 0 x d rfl rfl) (RpA.ofGet (by simpa using h) fun i v e h1 h2 => f (i + 1) v e (by simpa using h1) (by simpa using h2))
theorem rows_at (n : Nat) (ms1 : List MD) (ess : List (List PyData)) {i : Nat} {es : List PyData} (h : ess[i]? = some es) : (ms1 ++ rowsM n ess)[ms1.length + i]? = some (.l es) := by
  have hi := (List.getElem?_eq_some_iff.mp h).1
  rw [List.getElem?_append_right (by omega)]
  unfold rowsM
  rw [List.getElem?_append_left (by simp; omega), List.getElem?_map]
  have : ms1.length + i - ms1.length = i := by omega
  rw [this, h]
  rfl
theorem rows_top (n : Nat) (ms1 : List MD) (ess : List (List PyData)) : (ms1 ++ rowsM n ess)[ms1.length + ess.length]? = some (.r (List.range' n ess.length)) := by
  rw [List.getElem?_append_right (by omega)]
  unfold rowsM
  have : ms1.length + ess.length - ms1.length = (ess.map MD.l).length := by simp
  rw [this, List.getElem?_append_right (Nat.le_refl _), Nat.sub_self]
  rfl
theorem row_rp {ess : List (List PyData)} (a : At (L ++ qs) (M ++ qs) (ms1 ++ rowsM ms1.length ess) H) (hx : qs.length = ess.length + 1) (nm : ∀ q ∈ qs, q ∉ M) {i : Nat} {es : List PyData} {q : Addr} (he : ess[i]? = some es) (hq : (L ++ qs)[ms1.length + i]? = some q) : Rp M H (.ref q) (.list es) := by
  have hn : L.length = ms1.length := by
    have := a.ln
    simp [rows_len] at this
    omega
  obtain ⟨xs, e, r⟩ := a.ok _ q _ hq (rows_at _ _ _ he)
  have hm : q ∈ qs := by
    rw [List.getElem?_append_right (by omega)] at hq
    exact List.mem_of_getElem? hq
  exact .lst (nm q hm) e (RpA.to to_lessAll _ _ r)
theorem SlOk.frzLL {ess : List (List PyData)} {s : SD} {v : V} (a : At (L ++ qs) (M ++ qs) (ms1 ++ rowsM ms1.length ess) H) (hx : qs.length = ess.length + 1) (nm : ∀ q ∈ qs, q ∉ M) (h : SlOk K (L ++ qs) (M ++ qs) H s v) : SlOk K L M H (frzLS ms1.length ess s) v := by
  have hn : L.length = ms1.length := by
    have := a.ln
    simp [rows_len] at this
    omega
  cases s with
  | u => exact h
  | f _ => exact h
  | g _ => exact h
  | d x => exact Rp.to to_lessAll _ _ h
  | v x => exact h
  | w φ => exact ⟨h.2 _ _ _ _ _ to_lessAll h.1, h.2⟩
  | h φ =>
    obtain ⟨b, e, n, q⟩ := h
    exact ⟨b, e, fun z => n (List.mem_append_left _ z), q⟩
  | s ns =>
    obtain ⟨b, e, ⟨n, q⟩ | q⟩ := h
    · exact ⟨b, e, .inl ⟨fun z => n (List.mem_append_left _ z), q⟩⟩
    · exact ⟨b, e, .inr q⟩
  | q k =>
    obtain ⟨p, rfl, hp, hls⟩ := h
    have hk := (List.getElem?_eq_some_iff.mp hp).1
    rw [List.length_append, hn, hx] at hk
    have nol : ∀ xs, H p ≠ some (.lst xs) := fun xs e => hls.notL e
    have h1 : k < ms1.length := by
      rcases Nat.lt_or_ge k ms1.length with z | z
      · exact z
      · exfalso
        by_cases h2 : k = ms1.length + ess.length
        · subst h2
          obtain ⟨ps, e, _⟩ := a.ok _ p _ hp (rows_top _ _ _)
          exact nol _ e
        · have hi : k - ms1.length < ess.length := by omega
          have e2 : ess[k - ms1.length]? = some (ess.getD (k - ms1.length) []) := by simp [List.getD, hi]
          have e3 := rows_at ms1.length ms1 ess e2
          rw [show ms1.length + (k - ms1.length) = k by omega] at e3
          obtain ⟨xs, e, _⟩ := a.ok _ p _ hp e3
          exact nol _ e
    rw [List.getElem?_append_left (by omega)] at hp
    exact ⟨p, rfl, hp, hls⟩
  | o k =>
    obtain ⟨p, rfl, hp, hls⟩ := h
    have hk := (List.getElem?_eq_some_iff.mp hp).1
    rw [List.length_append, hn, hx] at hk
    have nol : ∀ xs, H p ≠ some (.lst xs) := fun xs e => hls.notL e
    have h1 : k < ms1.length := by
      rcases Nat.lt_or_ge k ms1.length with z | z
      · exact z
      · exfalso
        by_cases h2 : k = ms1.length + ess.length
        · subst h2
          obtain ⟨ps, e, _⟩ := a.ok _ p _ hp (rows_top _ _ _)
          exact nol _ e
        · have hi : k - ms1.length < ess.length := by omega
          have e2 : ess[k - ms1.length]? = some (ess.getD (k - ms1.length) []) := by simp [List.getD, hi]
          have e3 := rows_at ms1.length ms1 ess e2
          rw [show ms1.length + (k - ms1.length) = k by omega] at e3
          obtain ⟨xs, e, _⟩ := a.ok _ p _ hp e3
          exact nol _ e
    rw [List.getElem?_append_left (by omega)] at hp
    exact ⟨p, rfl, hp, hls⟩
  | m k =>
    obtain ⟨p, rfl, hp, hls⟩ := h
    have hk := (List.getElem?_eq_some_iff.mp hp).1
    rw [List.length_append, hn, hx] at hk
    show SlOk K L M H (if k < ms1.length then .m k else if k = ms1.length + ess.length then .d (.list (ess.map .list)) else .d (.list (ess.getD (k - ms1.length) []))) (.ref p)
    by_cases h1 : k < ms1.length
    · rw [if_pos h1]
      rw [List.getElem?_append_left (by omega)] at hp
      exact ⟨p, rfl, hp, hls⟩
    · rw [if_neg h1]
      by_cases h2 : k = ms1.length + ess.length
      · rw [if_pos h2]
        subst h2
        obtain ⟨ps, e, ln, f⟩ := a.ok _ p _ hp (rows_top _ _ _)
        rw [List.length_range'] at ln
        have hm : p ∈ qs := by
          rw [List.getElem?_append_right (by omega)] at hp
          exact List.mem_of_getElem? hp
        refine Rp.lst (nm p hm) e (RpA.ofGet (by simp [ln]) fun i v d e1 e2 => ?_)
        rw [List.getElem?_map] at e1 e2
        cases q1 : ps[i]? with
        | none => rw [q1] at e1; cases e1
        | some q =>
          cases q2 : ess[i]? with
          | none => rw [q2] at e2; cases e2
          | some es =>
            rw [q1] at e1
            rw [q2] at e2
            cases e1
            cases e2
            have hi := (List.getElem?_eq_some_iff.mp q2).1
            have := (f i (ms1.length + i) q (by rw [List.getElem?_range' hi]; simp) q1).1
            exact row_rp a hx nm q2 this
      · rw [if_neg h2]
        have hi : k - ms1.length < ess.length := by omega
        have e2 : ess[k - ms1.length]? = some (ess.getD (k - ms1.length) []) := by simp [List.getD, hi]
        refine row_rp a hx nm e2 ?_
        have : ms1.length + (k - ms1.length) = k := by omega
        rw [this]
        exact hp
theorem Sl.frzLL {σ : L2.St} {ds : List SD} {ess : List (List PyData)} (a : At (L ++ qs) (M ++ qs) (ms1 ++ rowsM ms1.length ess) H) (hx : qs.length = ess.length + 1) (nm : ∀ q ∈ qs, q ∉ M) (h : Sl K (L ++ qs) (M ++ qs) σ H ds) : Sl K L M σ H (ds.map (frzLS ms1.length ess)) := fun i s e => by
  rw [List.getElem?_map] at e
  cases q : ds[i]? with
  | none => rw [q] at e; cases e
  | some s0 =>
    rw [q] at e
    have e' : frzLS ms1.length ess s0 = s := Option.some.inj e
    by_cases hu : s0 = .u
    · subst hu
      subst e'
      exact h i .u q
    · obtain ⟨v, e1, e2⟩ := h.get q hu
      have z := e2.frzLL a hx nm
      rw [e'] at z
      cases s with
      | u => exact z.elim
      | f _ => exact z.elim
      | g _ => exact z.elim
      | d x => exact ⟨v, e1, z⟩
      | m k => exact ⟨v, e1, z⟩
      | q k => exact ⟨v, e1, z⟩
      | s ns => exact ⟨v, e1, z⟩
      | v x => exact ⟨v, e1, z⟩
      | h φ => exact ⟨v, e1, z⟩
      | w φ => exact ⟨v, e1, z⟩
      | o k => exact ⟨v, e1, z⟩
end
def Po.frzLL (P : Po) (n c : Nat) : Po where
  nx := fun ds' ms' => ∃ ms1 ess, ms' = ms1 ++ rowsM n ess ∧ ms1.length = n ∧ ess.length = c ∧ P.nx (ds'.map (frzLS n ess)) ms1
  rt := fun s ms' => ∃ ms1 ess, ms' = ms1 ++ rowsM n ess ∧ ms1.length = n ∧ ess.length = c ∧ P.rt (frzLS n ess (dd s)) ms1
  bk := fun ds' ms' => ∃ ms1 ess, ms' = ms1 ++ rowsM n ess ∧ ms1.length = n ∧ ess.length = c ∧ P.bk (ds'.map (frzLS n ess)) ms1
  ct := fun ds' ms' => ∃ ms1 ess, ms' = ms1 ++ rowsM n ess ∧ ms1.length = n ∧ ess.length = c ∧ P.ct (ds'.map (frzLS n ess)) ms1
section
variable {K : PySem.W.Frag} {L M qs : List Addr} {ms ms1 : List MD} {H H1 H' : Hp} {ds : List SD} {P : Po} {tA : TA} {u : TS} {R : RS}
/-- how it stands within [[] for .. in range(..)] -/
structure Ls (H1 : Hp) (D : Addr) (i : Nat) (qs : List Addr) (H : Hp) : Prop where
  w : ∀ a o, H1 a = some o → H a = some o
  len : qs.length = i
  d : H D = some (.lst (qs.map V.ref))
  q : ∀ q ∈ qs, H q = some (.lst []) ∧ H1 q = none ∧ q ≠ D
  nd : qs.Nodup
theorem Ls.at {D : Addr} {i : Nat} {qs : List Addr} (a : At L M ms H1) (hD : H1 D = none) (c : Ls H1 D i qs H) : At (L ++ (qs ++ [D])) (M ++ (qs ++ [D])) (ms ++ rowsM ms.length (List.replicate i [])) H := by
  have fr : ∀ p ∈ qs ++ [D], H1 p = none := fun p hp => by
    rcases List.mem_append.mp hp with z | z
    · exact (c.q p z).2.1
    · rw [List.mem_singleton.mp z]; exact hD
  have nL : ∀ p ∈ qs ++ [D], p ∉ L := fun p hp => a.freshL (fr p hp)
  have t : To M (M ++ (qs ++ [D])) H1 H := fun b o n e => ⟨(fun z => (List.mem_append.mp z).elim n fun z => by
    have := fr b z
    rw [this] at e
    cases e), c.w b o e⟩
  have hl := a.ln
  refine ⟨?_, ?_, ?_, ?_, fun k p m e1 e2 => ?_⟩
  · refine List.nodup_append.mpr ⟨a.nd, List.nodup_append.mpr ⟨c.nd, by simp, fun x hx y hy z => ?_⟩, fun x hx y hy z => ?_⟩
    · rw [List.mem_singleton.mp hy] at z
      exact (c.q x hx).2.2 z
    · subst z
      exact nL x hy hx
  · intro p hp
    rcases List.mem_append.mp hp with z | z
    · exact List.mem_append_left _ (a.sub p z)
    · exact List.mem_append_right _ z
  · intro p hp
    rcases List.mem_append.mp hp with z | z
    · obtain ⟨o, e, no⟩ := a.al p z
      exact ⟨o, c.w p o e, no⟩
    · rcases List.mem_append.mp z with z | z
      · rw [(c.q p z).1]; exact ⟨_, rfl, trivial⟩
      · rw [List.mem_singleton.mp z, c.d]; exact ⟨_, rfl, trivial⟩
  · simp [rows_len, hl, c.len]
  · by_cases h1 : k < L.length
    · rw [List.getElem?_append_left h1] at e1
      rw [List.getElem?_append_left (by omega)] at e2
      refine (a.ok k p m e1 e2).toL t (fun k' q' _ z => by rw [List.getElem?_append_left (List.getElem?_eq_some_iff.mp z).1]; exact z) ?_
      obtain ⟨o, e, _⟩ := a.al p (a.sub p (List.mem_of_getElem? e1))
      rw [e]
      exact c.w p o e
    · have hk := (List.getElem?_eq_some_iff.mp e1).1
      simp at hk
      have hcl := c.len
      rw [List.getElem?_append_right (by omega)] at e1
      by_cases h2 : k - L.length < qs.length
      · rw [List.getElem?_append_left h2] at e1
        have := rows_at ms.length ms (List.replicate i []) (i := k - L.length) (es := []) (by rw [List.getElem?_replicate, if_pos (by omega)])
        rw [show ms.length + (k - L.length) = k by omega, e2] at this
        cases this
        exact ⟨[], (c.q p (List.mem_of_getElem? e1)).1, .nil⟩
      · have hk2 : k = ms.length + (List.replicate i ([] : List PyData)).length := by
          rw [List.length_replicate]
          omega
        have e3 := rows_top ms.length ms (List.replicate i [])
        rw [← hk2, e2] at e3
        cases e3
        rw [List.getElem?_append_right (by omega)] at e1
        have : k - L.length - qs.length = 0 := by rw [List.length_replicate] at hk2; omega
        rw [this] at e1
        cases e1
        refine ⟨qs, c.d, by rw [List.length_range', List.length_replicate]; exact hcl, fun j k' q h1 h2 => ?_⟩
        have hj := (List.getElem?_eq_some_iff.mp h2).1
        rw [List.length_replicate, List.getElem?_range' (by omega)] at h1
        have hk' : ms.length + j = k' := by simpa using h1
        subst hk'
        rw [List.length_replicate] at hk2
        refine ⟨?_, by omega⟩
        rw [List.getElem?_append_right (by omega), List.getElem?_append_left (by omega)]
        have : ms.length + j - L.length = j := by omega
        rw [this]
        exact h2
theorem s_newLL {i j : Nat} (h : EA K tA ds ms fun as ms1 => ∃ n : Nat, as = [.d (.int n)] ∧ n ≤ 10000 ∧ S K u (ds.set i (.m (ms1.length + n))) (ms1 ++ rowsM ms1.length (List.replicate n [])) (P.frzLL ms1.length n)) :
    S K (tSeq (tAsg (tLc (iRng1 tA) (gName j) tYes (tLst tNil) [j]) (gName i)) u) ds ms P := fun L M σ H hS hA D n r b c_ =>
  h L M σ H hS hA _ fun as vs H1 ms1 w a1 o ⟨m, ea, hm, h1⟩ => by
    subst ea
    obtain ⟨v, t1, rfl, hv, rfl⟩ := o
    cases hv
    refine ⟨m, rfl, by omega, by omega, fun E hE => ?_⟩
    have hst : Ls H1 E 0 [] (upd H1 E (.lst [])) := ⟨fun a o e => by rw [upd_ne (ne_of_none e hE)]; exact e, rfl, upd_same, (fun q hq => by cases hq), List.Pairwise.nil⟩
    refine lc_range (lo := 0) (n := m) (fun i H' => ∃ qs, Ls H1 E i qs H') ⟨[], hst⟩ (fun i H' hi ⟨qs, c⟩ => ?_) (fun H' ⟨qs, c⟩ => ?_)
    · show L2.wipe ((L2.wipe σ [j]).set j _) [j] = L2.wipe σ [j] ∧ tYes _ H' _
      refine ⟨?_, ?_⟩
      · rw [wipe_set _ _ _ _ (by simp)]
        apply List.ext_getElem?
        intro k
        rw [wipe_get, wipe_get, wipe_length]
        by_cases e : k ∈ [j]
        · rw [if_pos e, if_pos e]
        · rw [if_neg e, if_neg e]
      · unfold tYes
        simp only [if_true]
        refine ⟨Nat.zero_le _, fun q hq => ?_⟩
        have ne : E ≠ q := fun z => by
          subst z
          rw [c.d] at hq
          cases hq
        have h1q : H1 q = none := by
          cases e : H1 q with
          | none => rfl
          | some o => rw [c.w q o e] at hq; cases hq
        have ob : ∀ x o, H' x = some o → x ≠ q := fun x o e z => by
          subst z
          rw [e] at hq
          cases hq
        refine ⟨qs.map V.ref, by rw [upd_ne ne]; exact c.d, by rw [List.length_map, c.len]; exact Nat.lt_of_lt_of_le (show i < 10001 by omega) (by decide), qs ++ [q], ⟨fun a o e => ?_, by rw [List.length_append, c.len]; rfl, by rw [upd_same, List.map_append]; rfl, fun x hx => ?_, ?_⟩⟩
        · rw [upd_ne (ne_of_none e hE), upd_ne (ob a o (c.w a o e))]
          exact c.w a o e
        · rcases List.mem_append.mp hx with z | z
          · obtain ⟨q1, q2, q3⟩ := c.q x z
            exact ⟨by rw [upd_ne q3, upd_ne (ob x _ q1)]; exact q1, q2, q3⟩
          · rw [List.mem_singleton.mp z]
            exact ⟨by rw [upd_ne (Ne.symm ne), upd_same], h1q, Ne.symm ne⟩
        · refine List.nodup_append.mpr ⟨c.nd, by simp, fun x hx y hy z => ?_⟩
          rw [List.mem_singleton.mp hy] at z
          exact ob x _ (c.q x hx).1 z
    · have a2 := c.at a1 hE
      have hcl := c.len
      have fr : ∀ p ∈ qs ++ [E], H1 p = none := fun p hp => by
        rcases List.mem_append.mp hp with z | z
        · exact (c.q p z).2.1
        · rw [List.mem_singleton.mp z]; exact hE
      have nm : ∀ p ∈ qs ++ [E], p ∉ M := fun p hp => a1.fresh (fr p hp)
      have fr0 : ∀ p ∈ qs ++ [E], H p = none := fun p hp => none_back a1 w (nm p hp) (fr p hp)
      have t : To M (M ++ (qs ++ [E])) H H' := fun x o nx e => ⟨(fun z => (List.mem_append.mp z).elim nx fun z => by
        have := fr0 x z
        rw [this] at e
        cases e), c.w x o (w x o (fun z => nx (hA.sub x z)) e)⟩
      have hl1 := a1.ln
      have hS1 : Sl K (L ++ (qs ++ [E])) (M ++ (qs ++ [E])) (σ.set i (some (.ref E))) H' (ds.set i (.m (ms1.length + m))) := by
        refine (hS.to t (fun x y ex => by
          obtain ⟨o1, f1, k1⟩ := w.kd x y ex
          exact ⟨o1, c.w x o1 f1, k1⟩) fun k q e => ?_).set i ⟨E, rfl, ?_, _, c.d⟩
        · rw [List.getElem?_append_left (List.getElem?_eq_some_iff.mp e).1]
          exact e
        · rw [List.getElem?_append_right (by omega), List.getElem?_append_right (by omega)]
          have : ms1.length + m - L.length - qs.length = 0 := by omega
          rw [this]
          rfl
      have wk : ∀ {H2 : Hp}, Wk (L ++ (qs ++ [E])) H' H2 → Wk L H H2 := fun {H2} w2 => ⟨fun x y nx ex => w2 x y (fun z => (List.mem_append.mp z).elim nx fun z => by
        have := fr0 x z
        rw [this] at ex
        cases ex) (c.w x y (w x y nx ex)), fun x y ex => by
        obtain ⟨o1, f1, k1⟩ := w.kd x y ex
        obtain ⟨o2, f2, k2⟩ := w2.kd x o1 (c.w x o1 f1)
        exact ⟨o2, f2, k2.trans k1⟩⟩
      have lq : ∀ ess : List (List PyData), ess.length = m → (qs ++ [E]).length = ess.length + 1 := fun ess e => by simp; omega
      have go : ∀ {N : List SD → List MD → Prop} {C : L2.St → Hp → Prop}, Nx K L M H N C → Nx K (L ++ (qs ++ [E])) (M ++ (qs ++ [E])) H' (fun ds' ms' => ∃ ms2 ess, ms' = ms2 ++ rowsM ms1.length ess ∧ ms2.length = ms1.length ∧ ess.length = m ∧ N (ds'.map (frzLS ms1.length ess)) ms2) C := by
        intro N C nn σ2 H2 ds2 ms2 w2 s2 a2 ⟨ms3, ess, e3, l3, le, n3⟩
        subst e3
        rw [← l3] at n3 a2
        exact nn σ2 H2 _ ms3 (wk w2) (s2.frzLL a2 (lq ess le) nm) (a2.dropAll (by rw [lq ess le, rows_len]) hA.sub) n3
      refine h1 _ _ _ H' hS1 a2 D (go n) ?_ (go b) (go c_)
      intro s2 v2 H2 ms2 w2 o2 ⟨ms3, ess, e3, l3, le, n3⟩
      subst e3
      have o3 := o2.sl
      have a3 := o2.at
      rw [← l3] at n3 a3
      refine r _ v2 H2 ms3 (wk w2) ?_ n3
      have sl := o3.frzLL a3 (lq ess le) nm
      exact Out.of (a3.dropAll (by rw [lq ess le, rows_len]) hA.sub) sl
/-- a row of them -/
theorem rr_ixR {a b : SD} (h : ∃ k i j ks, a = .m k ∧ b = .d (.int (i : Nat)) ∧ ms[k]? = some (.r ks) ∧ ks[i]? = some j ∧ (∃ es, ms[j]? = some (.l es)) ∧ R (.m j) ms) : RR K (rIx K) a b ms R := fun L M H x y hA ha hb Q q => by
  obtain ⟨k, i, j, ks, rfl, rfl, hk, hj, ⟨es, he⟩, r⟩ := h
  obtain ⟨p, rfl, hp, hls⟩ := ha
  cases hb
  obtain ⟨ps, e, ln, f⟩ := hA.ok k p _ hp hk
  have hi := (List.getElem?_eq_some_iff.mp hj).1
  have hi2 : i < ps.length := by omega
  have hq := List.getElem?_eq_getElem hi2
  refine .inl ⟨p, _, i, .ref ps[i], rfl, rfl, SqL.of e, atI_nat (by rw [List.getElem?_map, hq]; rfl), ?_⟩
  exact q (.m j) _ H ms (Wk.refl L H) ⟨hA, _, rfl, (f i j _ hj hq).1, let ⟨xs, e, _⟩ := hA.get (f i j _ hj hq).1 he; ⟨xs, e⟩⟩ r
end
end Hc

namespace Hc
open PySem PySem.Spec PyProof.Rows L2
/-! ### zip(t, xs) of a tuple and a list -/
structure Apt (z t o c d a b : Addr) : Prop where
  nd : [z, t, o, c, d].Nodup
  na : a ∉ [z, t, o, c, d]
  nb : b ∉ [z, t, o, c, d]
theorem Apt.sep {z t o c d a b : Addr} (h : Apt z t o c d a b) : PySem.ZipSep2 z t o c d [c, a] [d, b] := by
  obtain ⟨nd, na, nb⟩ := h
  simp only [List.nodup_cons, List.mem_cons, List.not_mem_nil, or_false, not_or] at nd na nb
  obtain ⟨⟨zt, zo, zc, zd⟩, ⟨t_o, tc, td⟩, ⟨oc, od⟩, cd, _⟩ := nd
  obtain ⟨az, at', ao, ac, ad⟩ := na
  obtain ⟨bz, bt, bo, bc, bd⟩ := nb
  constructor <;> first | (simp; done) | (simp only [List.mem_cons, List.not_mem_nil, or_false, not_or]; exact ⟨by first | assumption | exact Ne.symm (by assumption), by first | assumption | exact Ne.symm (by assumption)⟩) | assumption | exact Ne.symm (by assumption)
section
variable {K : PySem.W.Frag} {te ta tb tc tl : TE} {tt : TT} {tA : TA} {ds : List SD} {ms : List MD} {R : RS} {t u : TS} {P : Po}
/-! ### sum(xs) of ints -/
end
end Hc

namespace Hc
open PySem PySem.Spec PyProof.Rows L2
/-! ### calls that change nothing, of things that may change elsewhere -/
mutual
def noL : PyData → Bool
  | .tuple ds => noLA ds
  | .list _ => false
  | .dict _ => false
  | _ => true
def noLA : List PyData → Bool
  | [] => true
  | d :: r => noL d && noLA r
end
section
variable {K : PySem.W.Frag} {L M : List Addr} {ms : List MD} {H H' : Hp}
mutual
theorem rp_back (a : At L M ms H) : ∀ (d : PyData) (v : V), noL d = true → Rp [] H v d → Rp M H v d
  | .none, _, _, h => by cases h; exact .non
  | .bool b, _, _, h => by cases h; exact .bl b
  | .int i, _, _, h => by cases h; exact .int i
  | .str x, _, _, h => by cases h; exact .str x
  | .list ds, _, n, _ => by simp [noL] at n
  | .dict ds, _, n, _ => by simp [noL] at n
  | .tuple ds, _, n, h => by
    cases h with
    | tup na e r =>
      refine .tup (fun z => ?_) e (rpa_back a ds _ (by simpa [noL] using n) r)
      obtain ⟨o, eo, no⟩ := a.al _ z
      rw [e] at eo
      cases eo
      exact no
theorem rpa_back (a : At L M ms H) : ∀ (ds : List PyData) (vs : List V), noLA ds = true → RpA [] H vs ds → RpA M H vs ds
  | [], _, _, h => by cases h; exact .nil
  | d :: ds, _, n, h => by
    cases h with
    | cons x y =>
      have n' : noL d = true ∧ noLA ds = true := by simpa [noLA, Bool.and_eq_true] using n
      exact .cons (rp_back a d _ n'.1 x) (rpa_back a ds _ n'.2 y)
end
theorem to_nil : To M [] H H := fun a o n e => ⟨by simp, e⟩
theorem At.all (a : At L M ms H) (w : Wk [] H H') : At L M ms H' :=
  ⟨a.nd, a.sub, fun p hp => by
    obtain ⟨o, e, no⟩ := a.al p hp
    exact ⟨o, w p o (by simp) e, no⟩, a.ln, fun k p m e1 e2 => (a.ok k p m e1 e2).to (fun b o n e => ⟨n, w b o (by simp) e⟩) (by
    obtain ⟨o, e, _⟩ := a.al p (a.sub p (List.mem_of_getElem? e1))
    rw [e]
    exact w p o (by simp) e)⟩
inductive Svs (ms : List MD) : List SD → List PyData → Prop
  | nil : Svs ms [] []
  | d {x : PyData} {as : List SD} {xs : List PyData} : Svs ms as xs → Svs ms (.d x :: as) (x :: xs)
  | m {k : Nat} {es : List PyData} {as : List SD} {xs : List PyData} : ms[k]? = some (.l es) → Svs ms as xs → Svs ms (.m k :: as) (.list es :: xs)
theorem Svs.go (a : At L M ms H) : ∀ {as : List SD} {xs : List PyData} {vs : List V}, Svs ms as xs → SlsOk K L M H as vs → SlsOk K [] [] H (xs.map .d) vs
  | _, _, _, .nil, h => h
  | _, _, _, .d s, ⟨v, t, e, x, y⟩ => ⟨v, t, e, Rp.to to_nil _ _ x, Svs.go a s y⟩
  | _, _, _, .m hk s, ⟨v, t, e, x, y⟩ => by
    obtain ⟨p, rfl, hp, hls⟩ := x
    obtain ⟨zs, e1, r⟩ := a.get hp hk
    exact ⟨_, t, e, .lst (by simp) e1 (RpA.to to_nil _ _ r), Svs.go a s y⟩
variable {te ta tb tc tl : TE} {tt : TT} {tA : TA} {ds : List SD} {R : RS} {P : Po}
/-! ### more built-ins -/
theorem rc_maxL {as : List SD} (h : ∃ (s : SD) (ns : List Int), as = [s] ∧ Sv ms s (.list (ns.map .int)) ∧ 0 < ns.length ∧ ∀ m : Int, m ∈ ns → (∀ y ∈ ns, y ≤ m) → R (.d (.int m)) ms) : RC K (rMax K) as ms R := fun L M H vs hA ha Q q => by
  obtain ⟨s, ns, rfl, sv, hl, r⟩ := h
  obtain ⟨v, t, rfl, hv, rfl⟩ := ha
  obtain ⟨p, xs, rfl, hq, hr⟩ := sv.lst hA hv
  rw [RpA.ints_inv hr] at hq
  exact ⟨p, ns, rfl, hq, hl, fun m h1 h2 => q (.d (.int m)) _ H ms (Wk.refl L H) ⟨hA, .int m⟩ (r m h1 h2)⟩
abbrev rShrI : R2 := rI (fun _ j => 0 ≤ j) fun i j => .int (i / 2 ^ j.toNat)
def isNn : PyData → Bool
  | .none => true
  | _ => false
theorem rp_non {M : List Addr} {H : Hp} {v : V} {x : PyData} (h : Rp M H v x) : decide (v = .non) = isNn x := by
  cases h <;> rfl
theorem rr_notN {a b : SD} (h : ∃ x, a = .d x ∧ b = .d .none ∧ R (.d (.bool (!isNn x))) ms) : RR K rNotNn a b ms R := fun L M H u v hA ha hb Q q => by
  obtain ⟨x, rfl, rfl, r⟩ := h
  cases hb
  refine ⟨rfl, ?_⟩
  rw [rp_non ha]
  exact q (.d (.bool _)) _ H ms (Wk.refl L H) ⟨hA, .bl _⟩ r
theorem rr_isN {a b : SD} (h : ∃ x, a = .d x ∧ b = .d .none ∧ R (.d (.bool (isNn x))) ms) : RR K rIsNn a b ms R := fun L M H u v hA ha hb Q q => by
  obtain ⟨x, rfl, rfl, r⟩ := h
  cases hb
  refine ⟨rfl, ?_⟩
  rw [rp_non ha]
  exact q (.d (.bool _)) _ H ms (Wk.refl L H) ⟨hA, .bl _⟩ r
end
end Hc

namespace Hc
open PySem PySem.Spec PyProof.Rows L2
/-! ### dicts that may change, with ints and texts as keys -/
def kD (m : List (Key × PyData)) : List (PyData × PyData) := m.map fun p => (keyD p.1, p.2)
def valD (m : List (Key × PyData)) (k : Key) : Option PyData := (m.find? fun kv => decide (kv.1 = k)).map (·.2)
def putD (m : List (Key × PyData)) (k : Key) (d : PyData) : List (Key × PyData) :=
  if (m.any fun kv => decide (kv.1 = k)) = true then m.map (fun kv => if kv.1 = k then (kv.1, d) else kv) else m ++ [(k, d)]
theorem keyD_inj {a b : Key} (h : keyD a = keyD b) : a = b := by
  cases a <;> cases b <;> cases h <;> rfl
section
variable {K : PySem.W.Frag} {L M : List Addr} {ms : List MD} {H H' : Hp}
/-- the keys are the same, the values lie in the heap -/
inductive Rk (M : List Addr) (H : Hp) : List (Key × V) → List (Key × PyData) → Prop
  | nil : Rk M H [] []
  | cons {k : Key} {v : V} {d : PyData} {kvs : List (Key × V)} {m : List (Key × PyData)} : Rp M H v d → Rk M H kvs m → Rk M H ((k, v) :: kvs) ((k, d) :: m)
theorem rk_of : ∀ {m : List (Key × PyData)} {kvs : List (Key × V)}, RpK M H kvs (kD m) → Rk M H kvs m
  | [], _, h => by cases h; exact .nil
  | (k, d) :: m, _, h => by
    have h' : RpK M H _ ((keyD k, d) :: kD m) := h
    generalize e : (keyD k, d) = x at h'
    cases h' with
    | @cons k2 v2 kvs2 d2 ds2 a b =>
      injection e with e1 e2
      have := keyD_inj e1
      subst this e2
      exact .cons a (rk_of b)
theorem Rk.to : ∀ {m : List (Key × PyData)} {kvs : List (Key × V)}, Rk M H kvs m → RpK M H kvs (kD m)
  | _, _, .nil => .nil
  | _, _, .cons a b => .cons a (Rk.to b)
theorem Rk.length : ∀ {m : List (Key × PyData)} {kvs : List (Key × V)}, Rk M H kvs m → kvs.length = m.length
  | _, _, .nil => rfl
  | _, _, .cons a b => by simp [Rk.length b]
theorem Rk.get' : ∀ {m : List (Key × PyData)} {kvs : List (Key × V)} {i : Nat} {k : Key} {v : V}, Rk M H kvs m → kvs[i]? = some (k, v) → ∃ d, m[i]? = some (k, d) ∧ Rp M H v d
  | _, _, _, _, _, .nil, e => by simp at e
  | _, _, 0, _, _, .cons a _, e => by simp at e; obtain ⟨rfl, rfl⟩ := e; exact ⟨_, rfl, a⟩
  | _, _, i + 1, k, v, .cons _ b, e => by
    obtain ⟨d, h1, h2⟩ := Rk.get' (i := i) (k := k) (v := v) b (by simpa using e)
    exact ⟨d, by simpa using h1, h2⟩
theorem Rk.val (k : Key) : ∀ {m : List (Key × PyData)} {kvs : List (Key × V)}, Rk M H kvs m → (valD m k = none → valV kvs k = none) ∧ ∀ d, valD m k = some d → ∃ v, valV kvs k = some v ∧ Rp M H v d
  | _, _, .nil => ⟨fun _ => rfl, fun d e => by cases e⟩
  | (k1, d1) :: m, (_, v1) :: kvs, .cons a b => by
    by_cases e : k1 = k
    · refine ⟨fun h => ?_, fun d h => ?_⟩
      · simp [valD, e] at h
      · simp [valD, e] at h
        subst h
        exact ⟨v1, valV_pos e, a⟩
    · obtain ⟨h1, h2⟩ := Rk.val k b
      have e1 : valD ((k1, d1) :: m) k = valD m k := by simp [valD, List.find?_cons, e]
      rw [e1, valV_neg e]
      exact ⟨h1, h2⟩
theorem Rk.any (k : Key) : ∀ {m : List (Key × PyData)} {kvs : List (Key × V)}, Rk M H kvs m → (kvs.any fun kv => decide (kv.1 = k)) = (m.any fun kv => decide (kv.1 = k))
  | _, _, .nil => rfl
  | _, _, .cons _ b => by simp [Rk.any k b]
theorem Rk.mapP (k : Key) {v : V} {d : PyData} (r : Rp M H v d) : ∀ {m : List (Key × PyData)} {kvs : List (Key × V)}, Rk M H kvs m → Rk M H (kvs.map (fun kv => if kv.1 = k then (kv.1, v) else kv)) (m.map (fun kv => if kv.1 = k then (kv.1, d) else kv))
  | _, _, .nil => .nil
  | (k1, d1) :: m, (_, v1) :: kvs, .cons a b => by
    rw [List.map_cons, List.map_cons]
    by_cases e : k1 = k
    · simp only [if_pos e]
      exact .cons r (Rk.mapP k r b)
    · simp only [if_neg e]
      exact .cons a (Rk.mapP k r b)
theorem Rk.snoc (k : Key) {v : V} {d : PyData} (r : Rp M H v d) : ∀ {m : List (Key × PyData)} {kvs : List (Key × V)}, Rk M H kvs m → Rk M H (kvs ++ [(k, v)]) (m ++ [(k, d)])
  | _, _, .nil => .cons r .nil
  | _, _, .cons a b => .cons a (Rk.snoc k r b)
theorem Rk.put (k : Key) {v : V} {d : PyData} {m : List (Key × PyData)} {kvs : List (Key × V)} (h : Rk M H kvs m) (r : Rp M H v d) : Rk M H (putK kvs k v) (putD m k d) := by
  unfold putK putD
  rw [h.any k]
  split
  · exact Rk.mapP k r h
  · exact Rk.snoc k r h
theorem Rp.key {v : V} {k : Key} (h : Rp M H v (keyD k)) : v = kV k := by
  cases k <;> cases h <;> rfl
theorem rp_key (k : Key) : Rp M H (kV k) (keyD k) := by
  cases k
  · exact .int _
  · exact .str _
/-- a slot's dict, as it may be read -/
inductive Dv (ms : List MD) : SD → List (Key × PyData) → Prop
  | d (m : List (Key × PyData)) : Dv ms (.d (.dict (kD m))) m
  | q {k : Nat} {m : List (Key × PyData)} : ms[k]? = some (.k (kD m)) → Dv ms (.q k) m
theorem Dv.go {s : SD} {m : List (Key × PyData)} {v : V} (h : Dv ms s m) (hA : At L M ms H) (o : SlOk K L M H s v) : ∃ a kvs, v = .ref a ∧ H a = some (.dK kvs) ∧ Rk M H kvs m := by
  cases h with
  | d =>
    have o' : Rp M H v (.dict (kD m)) := o
    cases o' with
    | dct n e r => exact ⟨_, _, rfl, e, rk_of r⟩
  | q e =>
    obtain ⟨p, rfl, hp, _⟩ := o
    obtain ⟨kvs, e1, r⟩ := hA.getK hp e
    exact ⟨p, kvs, rfl, e1, rk_of r⟩
variable {te ta tb tc tl td ty : TE} {tt : TT} {tA : TA} {ds : List SD} {R : RS} {t u : TS} {P : Po}
theorem e_varq {i k : Nat} (h : ds[i]? = some (.q k)) (r : R (.q k) ms) : E K (tVar i) ds ms R := fun L M σ H hS hA Q q => by
  obtain ⟨v, e, o⟩ := hS.get h (fun z => nomatch z)
  exact ⟨v, e, q _ v H ms (Wk.refl L H) (.of hA o) r⟩
theorem e_dget (h : E K td ds ms fun s ms1 => E K ty ds ms1 fun y ms2 => ∃ m k d, Dv ms2 (dd s) m ∧ dd y = .d (keyD k) ∧ valD m k = some d ∧ R (.d d) ms2) : E K (tDGet td ty) ds ms R := fun L M σ H hS hA Q q =>
  h L M σ H hS hA _ fun s x H1 ms1 w1 o1 h1 => h1 L M σ H1 (hS.mono hA w1) o1.at _ fun y z H2 ms2 w2 o2 ⟨m, k, d, dv, ey, hv, r⟩ => by
    obtain ⟨a, kvs, rfl, e, rk⟩ := dv.go o2.at (o1.sl.mono o1.at w2)
    have oz := o2.sl
    rw [ey] at oz
    obtain ⟨v, e1, e2⟩ := (rk.val k).2 d hv
    refine ⟨a, v, rfl, .inl ⟨kvs, k, .inl e, Rp.key oz, e1.symm⟩, q (.d d) v H2 ms2 (w1.trans w2) ⟨o2.at, e2⟩ r⟩
theorem dget_o {s : SD} {m : List (Key × PyData)} {a : Addr} {k : Key} {kvs : List (Key × V)} (e : H a = some (.dK kvs)) (rk : Rk M H kvs m) : ∃ o, DGet H a (kV k) o ∧ o.isSome = (valD m k).isSome := by
  refine ⟨valV kvs k, .inl ⟨kvs, k, .inl e, rfl, rfl⟩, ?_⟩
  cases q : valD m k with
  | none => rw [(rk.val k).1 q]; rfl
  | some d =>
    obtain ⟨v, e1, _⟩ := (rk.val k).2 d q
    rw [e1]; rfl
theorem e_dnotin (h : E K ty ds ms fun y ms1 => E K td ds ms1 fun s ms2 => ∃ m k, Dv ms2 (dd s) m ∧ dd y = .d (keyD k) ∧ R (.d (.bool (!(valD m k).isSome))) ms2) : E K (tDNotIn ty td) ds ms R := fun L M σ H hS hA Q q =>
  h L M σ H hS hA _ fun y z H1 ms1 w1 o1 h1 => h1 L M σ H1 (hS.mono hA w1) o1.at _ fun s x H2 ms2 w2 o2 ⟨m, k, dv, ey, r⟩ => by
    obtain ⟨a, kvs, rfl, e, rk⟩ := dv.go o2.at o2.sl
    have oz := o1.sl.mono o1.at w2
    rw [ey] at oz
    obtain ⟨o, g, eo⟩ := dget_o (s := s) (k := k) e rk
    have ez : z = kV k := Rp.key oz
    subst ez
    refine ⟨a, o, rfl, g, ?_⟩
    rw [eo]
    exact q (.d (.bool _)) _ H2 ms2 (w1.trans w2) ⟨o2.at, .bl _⟩ r
/-! ### targets that are places in dicts -/
def EGh (K : PySem.W.Frag) (g : TG) (x : SD) (ds : List SD) (ms : List MD) (N : List MD → Prop) : Prop :=
  ∀ (L M : List Addr) (σ : L2.St) (H : Hp) (v : V), Sl K L M σ H ds → At L M ms H → SlOk K L M H x v → ∀ C : L2.St → Hp → Prop, (∀ H' ms', Wk L H H' → At L M ms' H' → N ms' → C σ H') → g v σ H C
def EGhs (K : PySem.W.Frag) (g : TGs) (xs : List PyData) (ds : List SD) (ms : List MD) (N : List MD → Prop) : Prop :=
  ∀ (L M : List Addr) (σ : L2.St) (H : Hp) (vs : List V), Sl K L M σ H ds → At L M ms H → RpA M H vs xs → ∀ C : L2.St → Hp → Prop, (∀ H' ms', Wk L H H' → At L M ms' H' → N ms' → C σ H') → g vs σ H C
theorem egh_set {to ti : TE} {d : PyData} {N : List MD → Prop} (h : E K to ds ms fun s ms1 => ∃ k, s = .q k ∧ E K ti ds ms1 fun y ms2 => ∃ (key : Key) (m : List (Key × PyData)), dd y = .d (keyD key) ∧ ms2[k]? = some (.k (kD m)) ∧ m.length < 10000 ∧ N (ms2.set k (.k (kD (putD m key d))))) :
    EGh K (gSub to ti rSetD) (.d d) ds ms N := fun L M σ H v hS hA ho C c =>
  h L M σ H hS hA _ fun s x H1 ms1 w1 o1 ⟨k, ek, h1⟩ => h1 L M σ H1 (hS.mono hA w1) o1.at _ fun y z H2 ms2 w2 o2 ⟨key, m, ey, em, hl, hn⟩ => by
    subst ek
    obtain ⟨a1, p, rfl, hp, _⟩ := o1
    have a2 := o2.at
    have oz := o2.sl
    rw [ey] at oz
    obtain ⟨kvs, e1, r1⟩ := a2.getK hp em
    have rk := rk_of r1
    have hpL : p ∈ L := List.mem_of_getElem? hp
    have rv : Rp M H2 v d := Rp.to (hA.wk (w1.trans w2)) _ _ ho
    refine ⟨p, _, rfl, .inl ⟨kvs, key, e1, Rp.key oz, by rw [rk.length]; exact Nat.lt_trans hl (by decide), rfl⟩, ?_⟩
    exact c _ _ ((w1.trans w2).trans (Wk.mut hpL e1)) (a2.putK hp e1 (rk.put key rv).to) hn
theorem eghs_nil {N : List MD → Prop} (h : N ms) : EGhs K gNil [] ds ms N := fun L M σ H vs hS hA hr C c => by
  cases hr
  exact ⟨rfl, c H ms (Wk.refl L H) hA h⟩
theorem eghs_cons {g : TG} {gs : TGs} {x : PyData} {xs : List PyData} {N : List MD → Prop} (h : EGh K g (.d x) ds ms fun ms1 => EGhs K gs xs ds ms1 N) : EGhs K (gCons g gs) (x :: xs) ds ms N := fun L M σ H vs hS hA hr C c => by
  cases hr with
  | @cons v r _ _ r1 r2 =>
    refine ⟨v, r, rfl, ?_⟩
    refine h L M σ H v hS hA r1 _ fun H1 ms1 w1 a1 h1 => ?_
    exact h1 L M σ H1 r (hS.mono hA w1) a1 (RpA.to (hA.wk w1) _ _ r2) C fun H2 ms2 w2 a2 h2 => c H2 ms2 (w1.trans w2) a2 h2
theorem egh_tup {gs : TGs} {n : Nat} {xs : List PyData} {N : List MD → Prop} (hn : xs.length = n) (h : EGhs K gs xs ds ms N) : EGh K (gTup K n gs) (.d (.tuple xs)) ds ms N := fun L M σ H v hS hA ho C c => by
  obtain ⟨a, ys, rfl, e, r⟩ := Sv.tup (ms := ms) (K := K) (L := L) (.d (.tuple xs)) ho
  exact ⟨a, ys, rfl, SqT.of e, by rw [r.length]; exact hn, h L M σ H ys hS hA r C c⟩
theorem s_asgH {g : TG} (h : E K te ds ms fun s ms1 => EGh K g (dd s) ds ms1 fun ms2 => P.nx ds ms2) : S K (tAsg te g) ds ms P := fun L M σ H hS hA D n r b c =>
  h L M σ H hS hA _ fun s v H1 ms1 w o h1 => h1 L M σ H1 v (hS.mono hA w) o.at o.sl _ fun H2 ms2 w2 a2 h2 => n σ H2 ds ms2 (w.trans w2) (hS.mono hA (w.trans w2)) a2 h2
/-! ### new dicts -/
theorem e_dnewG (r : R (.g []) ms) : E K tDNewK ds ms R := fun L M σ H hS hA Q q p hp => q (.g []) _ _ ms (Wk.new hp) (out_newK hA (Wk.refl L H) hp .nil) r
theorem At.hide {p : Addr} {o : HO} (h : At L M ms H) (e : H p = none) (no : NTup o) : At L (M ++ [p]) ms (upd H p o) := by
  have t : To M (M ++ [p]) H (upd H p o) := to_new h e (Wk.new e)
  refine ⟨h.nd, fun q hq => List.mem_append_left _ (h.sub q hq), fun q hq => ?_, h.ln, fun k q m e1 e2 => ?_⟩
  · by_cases z : q = p
    · subst z; rw [upd_same]; exact ⟨_, rfl, no⟩
    · rw [upd_ne z]
      rcases List.mem_append.mp hq with y | y
      · exact h.al q y
      · exact absurd (by simpa using y) z
  · exact (h.ok k q m e1 e2).to t (upd_ne fun z => h.freshL e (z ▸ List.mem_of_getElem? e1))
theorem At.show {p : Addr} (h : At L (M ++ [p]) ms H) (sb : ∀ q ∈ L, q ∈ M) : At L M ms H :=
  ⟨h.nd, sb, fun q hq => h.al q (List.mem_append_left _ hq), h.ln, fun k q m e1 e2 => (h.ok k q m e1 e2).to to_less rfl⟩
theorem mut_hid {p : Addr} {o o0 : HO} {h : At L (M ++ [p]) ms H} (np : p ∉ L) (e0 : H p = some o0) (no : NTup o) : At L (M ++ [p]) ms (upd H p o) := by
  have t : To (M ++ [p]) (M ++ [p]) H (upd H p o) := fun a u n e => ⟨n, by rw [upd_ne (fun z : a = p => n (by rw [z]; simp))]; exact e⟩
  refine ⟨h.nd, h.sub, fun q hq => ?_, h.ln, fun k q m e1 e2 => (h.ok k q m e1 e2).to t (upd_ne fun z => np (z ▸ List.mem_of_getElem? e1))⟩
  by_cases z : q = p
  · subst z; rw [upd_same]; exact ⟨_, rfl, no⟩
  · rw [upd_ne z]; exact h.al q hq
/-- {k: v} -/
theorem e_disp1 (h : E K ta ds ms fun x ms1 => ∃ k, x = .d (keyD k) ∧ E K tb ds ms1 fun y ms2 => ∃ d, dd y = .d d ∧ R (.g [(keyD k, d)]) ms2) : E K (tDisp [(ta, tb)]) ds ms R := fun L M σ H hS hA Q q p hp => by
  have np := hA.freshL hp
  have a0 := hA.hide (o := .dK []) hp trivial
  have w0 : Wk L H (upd H p (.dK [])) := Wk.new hp
  have s0 : Sl K L (M ++ [p]) σ (upd H p (.dK [])) ds := hS.to (to_new hA hp w0) w0.kd fun _ _ e => e
  refine h L (M ++ [p]) σ _ s0 a0 _ fun x v1 H1 ms1 w1 o1 ⟨k, ex, h1⟩ => ?_
  subst ex
  have a1 := o1.at
  refine h1 L (M ++ [p]) σ H1 (s0.mono a0 w1) a1 _ fun y v2 H2 ms2 w2 o2 ⟨d, ey, r⟩ => ?_
  have a2 := o2.at
  have r2 := o2.sl
  rw [ey] at r2
  have r1 : Rp (M ++ [p]) H1 v1 (keyD k) := o1.2
  have e1 := Rp.key r1
  subst e1
  have ep : H2 p = some (.dK []) := w2 p _ np (w1 p _ np upd_same)
  refine ⟨ep, [(k, v2)], rfl, Nat.le_of_ble_eq_true rfl, ?_⟩
  have em : mergeK [] [(k, v2)] = [(k, v2)] := rfl
  rw [em]
  have sb := hA.sub
  have a3 : At L (M ++ [p]) ms2 (upd H2 p (.dK [(k, v2)])) := mut_hid (h := a2) np ep trivial
  have w3 : Wk L H (upd H2 p (.dK [(k, v2)])) := Wk.over ((w0.trans w1).trans w2) hp
  have t3 : To (M ++ [p]) (M ++ [p]) H2 (upd H2 p (.dK [(k, v2)])) := fun a u n e => ⟨n, by rw [upd_ne (fun z : a = p => n (by rw [z]; simp))]; exact e⟩
  refine q (.g [(keyD k, d)]) _ _ ms2 w3 ⟨p, rfl, hp, hA.fresh hp, ?_, sb⟩ r
  refine ⟨List.nodup_append.mpr ⟨hA.nd, by simp, fun a ha b hb e => np (by simp at hb; subst hb e; exact ha)⟩, ?_, a3.al, by simp [a3.ln], fun j c m e1 e2 => ?_⟩
  · intro z hz
    rcases List.mem_append.mp hz with y | y
    · exact List.mem_append_left _ (sb z y)
    · exact List.mem_append_right _ y
  · by_cases hj : j < L.length
    · rw [List.getElem?_append_left hj] at e1
      rw [List.getElem?_append_left (by rw [← a3.ln]; exact hj)] at e2
      exact (a3.ok j c m e1 e2).toL (fun a o n e => ⟨n, e⟩) (fun k' q' _ z => by rw [List.getElem?_append_left (List.getElem?_eq_some_iff.mp z).1]; exact z) rfl
    · have hk2 : j = L.length := by
        have := (List.getElem?_eq_some_iff.mp e1).1
        simp at this
        omega
      subst hk2
      simp at e1
      subst e1
      rw [a3.ln] at e2
      simp at e2
      subst e2
      exact ⟨_, upd_same, .cons (Rp.to t3 _ _ r2) .nil⟩
/-! ### a new dict that may change, until the block's end -/
def frzSK (n : Nat) (es : List (PyData × PyData)) : SD → SD
  | .q k => if k = n then .d (.dict es) else .q k
  | s => s
def frzRK (n : Nat) (es : List (PyData × PyData)) : SD → SD
  | .q k => if k = n then .g es else .q k
  | s => s
def Po.frzK (P : Po) (n : Nat) : Po where
  nx := fun ds' ms' => ∃ ms1 es, ms' = ms1 ++ [.k es] ∧ ms1.length = n ∧ P.nx (ds'.map (frzSK n es)) ms1
  rt := fun s ms' => ∃ ms1 es, ms' = ms1 ++ [.k es] ∧ ms1.length = n ∧ P.rt (frzRK n es s) ms1
  bk := fun ds' ms' => ∃ ms1 es, ms' = ms1 ++ [.k es] ∧ ms1.length = n ∧ P.bk (ds'.map (frzSK n es)) ms1
  ct := fun ds' ms' => ∃ ms1 es, ms' = ms1 ++ [.k es] ∧ ms1.length = n ∧ P.ct (ds'.map (frzSK n es)) ms1
section
variable {p : Addr} {H0 H1 : Hp} {ms1 : List MD} {es : List (PyData × PyData)}
theorem SlOk.frzK {s : SD} {v : V} (a : At (L ++ [p]) (M ++ [p]) (ms1 ++ [.k es]) H) (np : p ∉ M) (h : SlOk K (L ++ [p]) (M ++ [p]) H s v) : SlOk K L M H (frzSK ms1.length es s) v := by
  have hl : L.length = ms1.length := by have := a.ln; simp at this; exact this
  cases s with
  | u => exact h
  | f _ => exact h
  | g _ => exact h
  | d x => exact Rp.to to_less _ _ h
  | v x => exact h
  | w φ => exact ⟨h.2 _ _ _ _ _ to_less h.1, h.2⟩
  | h φ =>
    obtain ⟨b, e, n, q⟩ := h
    exact ⟨b, e, fun z => n (List.mem_append_left _ z), q⟩
  | s ns =>
    obtain ⟨b, e, ⟨n, q⟩ | q⟩ := h
    · exact ⟨b, e, .inl ⟨fun z => n (List.mem_append_left _ z), q⟩⟩
    · exact ⟨b, e, .inr q⟩
  | m k =>
    obtain ⟨q, rfl, hq, kvs, hls⟩ := h
    have hk : k < L.length := by
      have h1 := (List.getElem?_eq_some_iff.mp hq).1
      rw [List.length_append] at h1
      have h2 : k ≠ L.length := fun z => by
        subst z
        simp at hq
        subst hq
        obtain ⟨xs, e1, _⟩ := a.lastK
        rw [hls] at e1
        cases e1
      have h3 : k < L.length + 1 := h1
      omega
    rw [List.getElem?_append_left hk] at hq
    exact ⟨q, rfl, hq, kvs, hls⟩
  | o k =>
    obtain ⟨q, rfl, hq, hls⟩ := h
    have hk : k < L.length := by
      have h1 := (List.getElem?_eq_some_iff.mp hq).1
      rw [List.length_append] at h1
      have h2 : k ≠ L.length := fun z => by
        subst z
        simp at hq
        subst hq
        obtain ⟨xs, e1, _⟩ := a.lastK
        exact hls.notK e1
      have h3 : k < L.length + 1 := h1
      omega
    rw [List.getElem?_append_left hk] at hq
    exact ⟨q, rfl, hq, hls⟩
  | q k =>
    obtain ⟨q, rfl, hq, hls⟩ := h
    show SlOk K L M H (if k = ms1.length then .d (.dict es) else .q k) _
    by_cases hk : k = ms1.length
    · rw [if_pos hk]
      subst hk
      rw [← hl] at hq
      simp at hq
      subst hq
      obtain ⟨xs, e1, r⟩ := a.lastK
      exact .dct np e1 (r.toP to_less)
    · rw [if_neg hk]
      have : k < L.length := by
        have := (List.getElem?_eq_some_iff.mp hq).1
        simp at this
        omega
      rw [List.getElem?_append_left this] at hq
      exact ⟨q, rfl, hq, hls⟩
theorem Sl.frzK {σ : L2.St} (a : At (L ++ [p]) (M ++ [p]) (ms1 ++ [.k es]) H) (np : p ∉ M) (h : Sl K (L ++ [p]) (M ++ [p]) σ H ds) : Sl K L M σ H (ds.map (frzSK ms1.length es)) := fun i s e => by
  rw [List.getElem?_map] at e
  cases q : ds[i]? with
  | none => rw [q] at e; cases e
  | some s0 =>
    rw [q] at e
    have e' : frzSK ms1.length es s0 = s := Option.some.inj e
    by_cases hu : s0 = .u
    · subst hu
      subst e'
      exact h i .u q
    · obtain ⟨v, e1, e2⟩ := h.get q hu
      have z := e2.frzK a np
      rw [e'] at z
      cases s with
      | u => exact z.elim
      | f _ => exact z.elim
      | g _ => exact z.elim
      | d x => exact ⟨v, e1, z⟩
      | m k => exact ⟨v, e1, z⟩
      | q k => exact ⟨v, e1, z⟩
      | s ns => exact ⟨v, e1, z⟩
      | v x => exact ⟨v, e1, z⟩
      | h φ => exact ⟨v, e1, z⟩
      | w φ => exact ⟨v, e1, z⟩
      | o k => exact ⟨v, e1, z⟩
theorem Out.frzK {v : V} {s : SD} (hp0 : H0 p = none) (a : At (L ++ [p]) (M ++ [p]) (ms1 ++ [.k es]) H) (w0 : ∀ q, q ∉ M → q ≠ p → H1 q = none → H0 q = none) (np : p ∉ M) (sb : ∀ x ∈ L, x ∈ M) (h : Out K (L ++ [p]) (M ++ [p]) H1 H (ms1 ++ [.k es]) v s) : Out K L M H0 H ms1 v (frzRK ms1.length es s) := by
  have ad := a.drop sb
  cases s with
  | u => exact h.2.elim
  | d x => exact ⟨ad, Rp.to to_less _ _ h.2⟩
  | s ns => exact ⟨ad, SlOk.frzK (s := .s ns) a np h.2⟩
  | v x => exact ⟨ad, h.2⟩
  | h φ => exact ⟨ad, SlOk.frzK (s := .h φ) a np h.2⟩
  | w φ => exact ⟨ad, SlOk.frzK (s := .w φ) a np h.2⟩
  | f fs =>
    obtain ⟨q, rfl, hq, nq, aq, _⟩ := h
    have nqM : q ∉ M := fun z => nq (List.mem_append_left _ z)
    have nqp : q ≠ p := fun z => nq (List.mem_append_right _ (by simp [z]))
    exact ⟨q, rfl, w0 q nqM nqp hq, nqM, At.dropMid rfl aq sb, sb⟩
  | g fs =>
    obtain ⟨q, rfl, hq, nq, aq, _⟩ := h
    have nqM : q ∉ M := fun z => nq (List.mem_append_left _ z)
    have nqp : q ≠ p := fun z => nq (List.mem_append_right _ (by simp [z]))
    exact ⟨q, rfl, w0 q nqM nqp hq, nqM, At.dropMid rfl aq sb, sb⟩
  | m k => exact ⟨ad, SlOk.frzK (s := .m k) a np h.2⟩
  | o k => exact ⟨ad, SlOk.frzK (s := .o k) a np h.2⟩
  | q k =>
    have hl : L.length = ms1.length := by have := a.ln; simp at this; exact this
    obtain ⟨_, q, rfl, hq, hls⟩ := h
    show Out K L M H0 H ms1 _ (if k = ms1.length then .g es else .q k)
    by_cases hk : k = ms1.length
    · rw [if_pos hk]
      subst hk
      rw [← hl] at hq
      simp at hq
      subst hq
      exact ⟨p, rfl, hp0, np, a, sb⟩
    · rw [if_neg hk]
      have : k < L.length := by
        have := (List.getElem?_eq_some_iff.mp hq).1
        simp at this
        omega
      rw [List.getElem?_append_left this] at hq
      exact ⟨ad, q, rfl, hq, hls⟩
end
theorem s_newD {i : Nat} (h : E K te ds ms fun s ms1 => ∃ es, s = .g es ∧ S K u (ds.set i (.q ms1.length)) (ms1 ++ [.k es]) (P.frzK ms1.length)) : S K (tSeq (tAsg te (gName i)) u) ds ms P := fun L M σ H hS hA D n r b c =>
  h L M σ H hS hA _ fun s v H1 ms1 w o ⟨es, e, h1⟩ => by
    subst e
    obtain ⟨p, rfl, hp, np, a1, sb⟩ := o
    have hl : L.length = ms1.length := by have := a1.ln; simp at this; exact this
    have npL : p ∉ L := fun z => np (hA.sub p z)
    have t : To M (M ++ [p]) H H1 := to_new hA hp w
    have hS1 : Sl K (L ++ [p]) (M ++ [p]) (σ.set i (some (.ref p))) H1 (ds.set i (.q ms1.length)) := by
      refine (hS.to t w.kd fun k q e => ?_).set i ⟨p, rfl, by rw [← hl]; simp, let ⟨xs, e, _⟩ := a1.lastK; ⟨_, e, .inl rfl⟩⟩
      rw [List.getElem?_append_left (List.getElem?_eq_some_iff.mp e).1]
      exact e
    have wk : ∀ {H2 : Hp}, Wk (L ++ [p]) H1 H2 → Wk L H H2 := fun {H2} w2 => ⟨fun x y nx ex => w2 x y (fun z => (List.mem_append.mp z).elim nx fun z => ne_of_none ex hp (by simpa using z)) (w x y nx ex), fun x y ex => by
      obtain ⟨o1, f1, k1⟩ := w.kd x y ex
      obtain ⟨o2, f2, k2⟩ := w2.kd x o1 f1
      exact ⟨o2, f2, k2.trans k1⟩⟩
    have go : ∀ {N : List SD → List MD → Prop} {C : L2.St → Hp → Prop}, Nx K L M H N C → Nx K (L ++ [p]) (M ++ [p]) H1 (fun ds' ms' => ∃ ms1' es, ms' = ms1' ++ [.k es] ∧ ms1'.length = ms1.length ∧ N (ds'.map (frzSK ms1.length es)) ms1') C := by
      intro N C nn σ2 H2 ds2 ms2 w2 s2 a2 ⟨ms3, es3, e3, l3, n3⟩
      subst e3
      rw [← l3] at n3
      exact nn σ2 H2 _ ms3 (wk w2) (s2.frzK a2 np) (a2.drop sb) n3
    refine h1 (L ++ [p]) (M ++ [p]) _ H1 hS1 a1 D (go n) ?_ (go b) (go c)
    intro s2 v2 H2 ms2 w2 o2 ⟨ms3, es3, e3, l3, n3⟩
    subst e3
    rw [← l3] at n3
    refine r _ v2 H2 ms3 (wk w2) ?_ n3
    refine Out.frzK hp o2.at (fun q hq hqp hq1 => ?_) np sb o2
    cases e : H q with
    | none => rfl
    | some oo => rw [w q oo (fun z => hq (hA.sub q z)) e] at hq1; cases hq1
/-- a, b, c = {}, {}, {} -/
theorem s_par3D {i j l : Nat} (h : S K (tSeq (tAsg tDNewK (gName i)) (tSeq (tAsg tDNewK (gName j)) (tSeq (tAsg tDNewK (gName l)) u))) ds ms P) : S K (tSeq (tPar3 i j l (tCons tDNewK (tCons tDNewK (tCons tDNewK tNil)))) u) ds ms P := fun L M σ H hS hA D n r b c p1 h1 p2 h2 p3 h3 =>
  ⟨_, _, _, rfl, h L M σ H hS hA D n r b c p1 h1 p2 h2 p3 h3⟩
/-! ### for k, v in (a new dict).items() -/
/-- a new dict, locked as soon as it is there -/
def tLkN (td : TE) : TE := fun σ H Q => td σ H fun x H1 => ∃ d kvs, x = .ref d ∧ H1 d = some (.dK kvs) ∧ ∀ o, Q x (upd H1 d (.frz o (.dK kvs)))
theorem pe_lkN {X : Cx} {e : Expr} (he : PE X e td) : PE X e (tLkN td) := ⟨fun pins s σ H Q I h => thn (he.run pins s σ H _ I h) fun u s1 hu => by
  obtain ⟨x, H1, I1, rx, d, kvs, ex, hd, q⟩ := hu
  obtain ⟨o, I0⟩ := I1.lock hd True.intro
  exact ⟨x, _, I0, rx, q o⟩⟩
theorem s_forD {g : TG} {js : List Nat} (h : E K tl ds ms fun s ms0 => ∃ m : List (Key × PyData), s = .g (kD m) ∧ ∃ Pv : Nat → List SD → List MD → Prop, Pv 0 ds ms0 ∧
      (∀ i k e ds1 ms1, m[i]? = some (k, e) → Pv i ds1 ms1 → EG K g js (.d (.tuple [keyD k, e])) ds1 ms1 fun ds2 ms2 => S K t ds2 ms2 ⟨Pv (i + 1), fun _ _ => False, P.nx, Pv (i + 1)⟩) ∧ ∀ ds1 ms1, Pv m.length ds1 ms1 → P.nx ds1 ms1) :
    S K (tFor (iItems (tLkN tl)) g t) ds ms P := fun L M σ H hS hA D n r b c =>
  h L M σ H hS hA _ fun s v H1 ms0 w o ⟨m, es, Pv, h0, hs, hd⟩ => by
    subst es
    obtain ⟨p, rfl, hp, np, a1, sb⟩ := o
    obtain ⟨kvs, e1, r1⟩ := a1.lastK
    have npL : p ∉ L := fun z => np (hA.sub p z)
    have rk := rk_of r1
    refine ⟨p, kvs, rfl, e1, fun o => ⟨p, o, kvs, rfl, upd_same, ?_⟩⟩
    have tH : To (M ++ [p]) (M ++ [p]) H1 (upd H1 p (.frz o (.dK kvs))) := fun a u n e => ⟨n, by rw [upd_ne (fun z : a = p => n (by rw [z]; simp))]; exact e⟩
    have ln0 : L.length = ms0.length := by have := a1.ln; simp at this; exact this
    have a2 : At L (M ++ [p]) ms0 (upd H1 p (.frz o (.dK kvs))) := by
      refine ⟨(List.nodup_append.mp a1.nd).1, fun q hq => List.mem_append_left _ (sb q hq), fun q hq => ?_, ln0, fun k q x f1 f2 => ?_⟩
      · by_cases z : q = p
        · subst z; rw [upd_same]; exact ⟨_, rfl, trivial⟩
        · rw [upd_ne z]; exact a1.al q hq
      · have hk : k < L.length := (List.getElem?_eq_some_iff.mp f1).1
        have hq : q ≠ p := fun z => npL (z ▸ List.mem_of_getElem? f1)
        exact (a1.ok k q x (by rw [List.getElem?_append_left hk]; exact f1) (by rw [List.getElem?_append_left (by omega)]; exact f2)).toL tH (fun k' q' hlt z => by rw [List.getElem?_append_left (by omega)] at z; exact z) (upd_ne hq)
    have w2 : Wk L H (upd H1 p (.frz o (.dK kvs))) := w.over hp
    have s2 : Sl K L (M ++ [p]) σ (upd H1 p (.frz o (.dK kvs))) ds := hS.to (to_new hA hp w2) w2.kd fun _ _ e => e
    have lk : ∀ {H' : Hp}, Wk L (upd H1 p (.frz o (.dK kvs))) H' → H' p = some (.frz o (.dK kvs)) := fun w' => w' p _ npL upd_same
    have out : ∀ {N : List SD → List MD → Prop} {C : L2.St → Hp → Prop}, Nx K L M H N C → ∀ {H' : Hp}, Wk L (upd H1 p (.frz o (.dK kvs))) H' → Nx K L (M ++ [p]) H' N C := fun nn H' w' σ3 H3 ds3 ms3 w3 s3 a3 p3 =>
      nn σ3 H3 ds3 ms3 ((w2.trans w').trans w3) (s3.to to_less (fun a o e => ⟨o, e, rfl⟩) fun _ _ e => e) (a3.show sb) p3
    refine for_it walk_items (fun i σ' H' => ∃ ds' ms', Wk L (upd H1 p (.frz o (.dK kvs))) H' ∧ Sl K L (M ++ [p]) σ' H' ds' ∧ At L (M ++ [p]) ms' H' ∧ Pv i ds' ms') ⟨ds, ms0, Wk.refl L _, s2, a2, h0⟩ (fun i σ' H' _ ⟨_, _, w', _⟩ => lk w') (fun i x σ' H' H2 hi ⟨ds', ms', w', s', a', p'⟩ y => ?_) (fun σ' H' ⟨ds', ms', w', s', a', p'⟩ => ?_)
    · obtain ⟨N, c1, y1, rfl, hN, rfl, q1, q2⟩ := y
      simp only [] at q1 q2
      cases qk : kvs[i]? with
      | none => rw [qk] at q1; cases q1
      | some kv =>
        obtain ⟨k, v⟩ := kv
        rw [qk] at q1 q2
        cases q1
        cases q2
        obtain ⟨e, f1, f2⟩ := rk.get' qk
        have w4 : Wk L H' (upd H' N (.tup [kV k, v])) := Wk.new hN
        have a4 := a'.new (o := .tup [kV k, v]) hN
        have w3 := w'.trans w4
        refine hs i k e ds' ms' f1 p' L (M ++ [p]) σ' _ (.ref N) (s'.mono a' w4) a4 (Rp.tup (a'.fresh hN) upd_same (.cons (rp_key k) (.cons (Rp.to (fun a o n e => ?_) _ _ f2) .nil))) _ fun σ2 ds2 s2 _ h2 => ?_
        · exact ⟨n, w3 a o (fun z => n (List.mem_append_left _ (sb a z))) (tH a o n e).2⟩
        · exact h2 L (M ++ [p]) σ2 _ s2 a4 _ (fun σ3 H3 ds3 ms3 w5 s3 a3 p3 => ⟨ds3, ms3, w3.trans w5, s3, a3, p3⟩) (fun _ _ _ _ _ _ z => z.elim) (out n w3) (fun σ3 H3 ds3 ms3 w5 s3 a3 p3 => ⟨ds3, ms3, w3.trans w5, s3, a3, p3⟩)
    · rw [rk.length] at p'
      exact out n w' σ' H' ds' ms' (Wk.refl L H') s' a' (hd ds' ms' p')
end
end Hc

namespace Hc
open PySem PySem.Spec PyProof.Rows L2
/-! ### min(xs, key=len), of a list of tuples -/
abbrev lenV : Value := .builtin "len"
section
variable {prog : Program} {w : World} {A : Around} {E : Value → Shared → Prop} {s : Shared} {l I S : Addr} {vs : List Value} {R : Result → Shared → Prop} {Q : Value → Shared → Prop}
/-- the lengths of the tuples in vs -/
def Lens (h0 : Heap) (vs : List Value) (kf : Nat → Int) : Prop := ∀ (i : Nat) (v : Value), vs[i]? = some v → ∃ b its, v = .ref b ∧ IsTup h0 b its ∧ (its.size : Int) < 2 ^ 63 ∧ kf i = its.size
end
/-- min(e, key=len) -/
def tMinL (K : PySem.W.Frag) (ta : TA) : TE := fun σ H Q => ta σ H fun vs H1 => ∃ (a : Addr) (xs : List V), vs = [.ref a] ∧ SqL K H1 a xs ∧ 0 < xs.length ∧ (∀ v ∈ xs, ∃ b ys, v = .ref b ∧ SqT K H1 b ys) ∧ ∀ v ∈ xs, Q v H1
theorem lens_of {X : Cx} {pins : List (Addr × Obj)} {σ : L2.St} {H : Hp} {s : Shared} {xs : List V} {its : List Value} (I : Inv X pins σ H s) (rv : Vals xs its) (tu : ∀ v ∈ xs, ∃ b ys, v = .ref b ∧ SqT X.K H b ys) : ∃ kf, Lens s.heap its kf := by
  have : ∀ i : Nat, ∃ k : Int, ∀ v, its[i]? = some v → ∃ b tt, v = .ref b ∧ IsTup s.heap b tt ∧ (tt.size : Int) < 2 ^ 63 ∧ k = tt.size := fun i => by
    cases e : its[i]? with
    | none => exact ⟨0, fun v z => by cases z⟩
    | some u =>
      have hl := rv.length
      have hi := (List.getElem?_eq_some_iff.mp e).1
      obtain ⟨u2, h1, h2⟩ := rv.get (List.getElem?_eq_getElem (l := xs) (i := i) (by omega))
      rw [e] at h1
      cases h1
      obtain ⟨b, ys, eb, sq⟩ := tu _ (List.getElem_mem (l := xs) (n := i) (by omega))
      rw [eb] at h2
      cases h2
      obtain ⟨tt, r2, tp, z2⟩ := I.tuple sq
      refine ⟨(tt.toArray.size : Int), fun v z => ⟨b, tt.toArray, (Option.some.inj z).symm, tp, ?_, rfl⟩⟩
      have hn := line63
      have := r2.length
      simp only [List.size_toArray]
      omega
  obtain ⟨kf, hk⟩ := Classical.axiomOfChoice this
  exact ⟨kf, fun i v z => hk i v z⟩
/-- all that lies in a heap, apart from the ground and one namespace -/
def others (g : Heap) (L : Addr) (h : Heap) : List (Addr × Obj) := (List.range h.objs.size).filterMap fun b => if b = L ∨ (g.get? b).isSome = true then none else (h.get? b).map (Prod.mk b)
theorem others_mem {g h : Heap} {L b : Addr} {o : Obj} : (b, o) ∈ others g L h ↔ b ≠ L ∧ g.get? b = none ∧ h.get? b = some o := by
  unfold others
  rw [List.mem_filterMap]
  constructor
  · rintro ⟨c, _, e⟩
    by_cases z : c = L ∨ (g.get? c).isSome = true
    · rw [if_pos z] at e; cases e
    · rw [if_neg z] at e
      obtain ⟨o', e1, e2⟩ := Option.map_eq_some_iff.mp e
      cases e2
      exact ⟨fun y => z (.inl y), by simpa using fun y => z (.inr y), e1⟩
  · rintro ⟨n1, n2, e⟩
    refine ⟨b, List.mem_range.mpr (Heap.lt_size e), ?_⟩
    rw [if_neg (fun y => y.elim n1 fun y => by rw [n2] at y; cases y), e]
    rfl
theorem min_len {X : Cx} {pins : List (Addr × Obj)} {σ : L2.St} {H : Hp} {s : Shared} {l : Addr} {vs : List Value} {kf : Nat → Int} {Q E : Value → Shared → Prop} (I : Inv X pins σ H s) (hc : X.A.handled = none) (hl : s.heap.IsList l vs.toArray) (hne : 0 < vs.length) (hL : Lens s.heap vs kf)
    (hQ : ∀ (i : Nat) (v : Value) (h' : Heap) (tk' : Nat), vs[i]? = some v → Inv X pins σ H { s with heap := h', toks := tk' } → Q v { s with heap := h', toks := tk' }) :
    wpAny (model X.prog X.w) X.A (call (.builtin "min") [.ref l] [(Str.ofString "key", lenV)]) Q E s := by
  obtain ⟨m, F⟩ := I.fr
  have fL := F.ns
  obtain ⟨oL, esL, epL, gL, dL, skL, fdL⟩ := id fL
  have all : ∀ (h : Heap) (own : List (Addr × Obj)), Fr X.base X.env.locals h m → News X.base X.env.locals h (others X.base X.env.locals s.heap ++ own) → ∀ b o, b ≠ X.env.locals → s.heap.get? b = some o → h.get? b = some o := fun h own f n b o nb e => by
    cases q : X.base.get? b with
    | none => exact (n (b, o) (List.mem_append_left _ (others_mem.mpr ⟨nb, q, e⟩))).1
    | some o' =>
      have e2 := I.bk b o' q
      rw [e] at e2
      cases e2
      exact f.keep b o q
  have notL : ∀ b o, s.heap.get? b = some o → (∃ xs n, o.data = .seq xs n) → b ≠ X.env.locals := fun b o e ⟨xs, n, d⟩ z => by
    subst z
    rw [gL] at e
    cases e
    rw [dL] at d
    cases d
  refine kmb_min (L := X.env.locals) (news := others X.base X.env.locals s.heap) kf hc F (fun p hp => ?_) (fun h f n => ?_) hne (fun i v hv h tk own f n => ?_) (fun i v h' tk' hv _ f n => hQ i v h' tk' hv ?_)
  · obtain ⟨z1, z2, z3⟩ := others_mem.mp (show (p.1, p.2) ∈ _ from hp)
    exact ⟨z3, z1, z2⟩
  · obtain ⟨o, e, c, d⟩ := hl
    exact ⟨o, all h [] f (by rw [List.append_nil]; exact n) l o (notL l o e ⟨_, d⟩) e, c, d⟩
  · obtain ⟨b, its, rfl, ⟨o, e, c, d⟩, hz, ek⟩ := hL i v hv
    refine PyProof.Rows.len_tuple (s := { s with heap := h, toks := tk }) (t := b) (items := its) ⟨o, all h own f n b o (notL b o e ⟨_, d⟩) e, c, d⟩ hz ?_
    rw [← ek]
    exact ⟨h, _, _, rfl, rfl, f, n⟩
  · have al := all h' [] f (by rw [List.append_nil]; exact n)
    have nL : ∀ b u, H b = some u → b ≠ X.env.locals := fun b u e z => by
      rw [z, I.free] at e
      cases e
    have there : ∀ b o, s.heap.get? b = some o → ∃ o', h'.get? b = some o' := fun b o e => by
      by_cases z : b = X.env.locals
      · obtain ⟨o', _, _, e', _⟩ := f.ns
        exact ⟨o', by rw [z]; exact e'⟩
      · exact ⟨o, al b o z e⟩
    refine I.step (ch := []) (g' := s.gens) (d' := s.drawn) (fun _ z => by cases z) (fun b o nb _ _ e _ => al b o nb e) (fun b o nb _ _ e _ => ⟨o.slots, al b o nb e⟩) (fun _ _ _ _ z => z) (fun b o _ e => there b o e) (fun _ _ z => z) (fun _ _ _ z => z) (fun b ps e => ⟨#[], by simpa using e⟩) (fun m' hm => ?_) (fun b u e => ?_) I.bare
    · have em : m' = m := funext fun x => by
        obtain ⟨o1, es1, ep1, g1, d1, _, f1⟩ := hm
        rw [gL] at g1
        cases g1
        rw [dL] at d1
        cases d1
        rw [← f1, fdL]
      rw [em]
      exact f.ns
    · refine (I.hok b u e).stay (fun c v hcv q => al c v ?_ q) (fun _ z => z) (fun _ _ z => z)
      rcases hcv with z | z
      · rw [z]; exact nL b u e
      · exact nL c _ z
theorem pe_minL {X : Cx} {ex : Expr} {ta : TA} {p pos kpos np : Pos} (hc : X.calm = true) (hg : Gl X "min") (hm : X.mg "min" = none) (hg2 : Gl X "len") (hm2 : X.mg "len" = none) (ha : PA X [ex] ta)
    (he : backTo pos (starEach [ex] X.env) = (false, eval ex X.env) :: backTo pos (starEach [] X.env) := by rfl) (hpl : (backTo pos (starEach [ex] X.env)).any (·.1) = false := by rfl) :
    PE X (.Call (.Name "min" p) [ex] [⟨some "key", .Name "len" np, kpos⟩] pos) (tMinL X.K ta) := by
  refine ⟨fun pins s σ H Q I h => ?_⟩
  refine wpAny_Call_Name_kw (ld_blt I hg hm (u := .builtin "min") (by decide +kernel) ?_)
  refine PyProof.Rows.callWith_kw (thn (ha.run pos pins s σ H _ I h) fun us s1 ⟨vs, H1, I1, r1, a, xs, ev, sq, hne, tu, q⟩ => ?_) he hpl
  subst ev
  obtain rfl := Vals.ref1 r1
  show wpAny _ _ (evalAll ((do let v ← eval (.Name "len" np) X.env; standAt pos; pure v) :: [])) _ _ s1
  refine wpAny_evalAll_cons (wpAny_bind (ld_blt I1 hg2 hm2 (u := .builtin "len") (by decide +kernel) (wpAny_bind (wpAny_standAt (wpAny_pure ?_)))))
  refine wpAny_evalAll_nil ?_
  show wpAny _ _ (call (.builtin "min") [.ref a] [(Str.ofString "key", lenV)]) _ _ s1
  obtain ⟨its, rv, pl, hz⟩ := I1.list sq
  obtain ⟨kf, hL⟩ := lens_of I1 rv tu
  have hl := rv.length
  refine min_len I1 (I1.ok.hd hc) pl.isList (by omega) hL fun i v h' tk' hv I2 => ?_
  have hi := (List.getElem?_eq_some_iff.mp hv).1
  have hx : xs[i]? = some (xs[i]'(by omega)) := List.getElem?_eq_getElem (by omega)
  obtain ⟨v2, e2, r2⟩ := rv.get hx
  rw [hv] at e2
  cases e2
  exact ⟨_, H1, I2, r2, q _ (List.getElem_mem (by omega))⟩
section
variable {K : PySem.W.Frag} {ms : List MD} {tA : TA} {ds : List SD} {R : RS}
theorem e_minL (h : EA K tA ds ms fun as ms1 => ∃ es : List PyData, (∃ s, as = [s] ∧ Sv ms1 s (.list es)) ∧ 0 < es.length ∧ (∀ e ∈ es, ∃ ys, e = .tuple ys) ∧ ∀ e ∈ es, R (.d e) ms1) : E K (tMinL K tA) ds ms R := fun L M σ H hS hA Q q =>
  h L M σ H hS hA _ fun as vs H1 ms1 w a1 o ⟨es, ⟨s, ea, sv⟩, hne, tu, r⟩ => by
    subst ea
    obtain ⟨v, t, rfl, hv, rfl⟩ := o
    obtain ⟨p, xs, rfl, hq, hr⟩ := sv.lst a1 hv
    have hl := hr.length
    refine ⟨p, xs, rfl, hq, by omega, fun v hv => ?_, fun v hv => ?_⟩
    · obtain ⟨i, hi, e⟩ := List.getElem_of_mem hv
      obtain ⟨d, h1, h2⟩ := hr.get' (List.getElem?_eq_getElem hi)
      rw [e] at h2
      obtain ⟨ys, rfl⟩ := tu d (List.mem_of_getElem? h1)
      cases h2 with
      | tup n e1 r => exact ⟨_, _, rfl, SqT.of e1⟩
    · obtain ⟨i, hi, e⟩ := List.getElem_of_mem hv
      obtain ⟨d, h1, h2⟩ := hr.get' (List.getElem?_eq_getElem hi)
      rw [e] at h2
      exact q (.d d) v H1 ms1 w ⟨a1, h2⟩ (r d (List.mem_of_getElem? h1))
end
section
variable {K : PySem.W.Frag} {ms : List MD} {te : TE} {ds : List SD} {P : Po}
theorem u1 {k : Nat} {A : Around} (h : Room k A) : A.units + 1 < cLine := by
  have := h.un
  omega
/-- x += e, of ints -/
theorem s_augI {i : Nat} {f : Int → Int → Int} {a : Int} (hi : ds[i]? = some (.d (.int a))) (h : E K te ds ms fun s ms1 => ∃ b, s = .d (.int b) ∧ P.nx (ds.set i (.d (.int (f a b)))) ms1) : S K (tAug i te (ipI f)) ds ms P := fun L M σ H hS hA D n r b c => by
  obtain ⟨v, e, o⟩ := hS.get hi (fun z => nomatch z)
  have o' : Rp M H v (.int a) := o
  cases o'
  refine ⟨_, e, h L M σ H hS hA _ fun s v H1 ms1 w o1 ⟨bb, es, h1⟩ => ?_⟩
  subst es
  obtain ⟨a1, z⟩ := o1
  cases z
  exact ⟨a, bb, rfl, rfl, n _ H1 _ ms1 w ((hS.mono hA w).set i (s := .d (.int (f a bb))) (Rp.int _)) a1 h1⟩
/-- t + u of tuples, either may be empty -/
theorem rr_catA {R : RS} {a b : SD} (h : ∃ es fs, a = .d (.tuple es) ∧ b = .d (.tuple fs) ∧ es.length + fs.length ≤ 10000 ∧ R (.d (.tuple (es ++ fs))) ms) : RR K (rCatA K) a b ms R := fun L M H x y hA ha hb Q q => by
  obtain ⟨es, fs, rfl, rfl, hz, r⟩ := h
  have ha2 : Rp M H x (.tuple es) := ha
  have hb2 : Rp M H y (.tuple fs) := hb
  cases ha2 with
  | @tup p xs _ np ep rp =>
    cases hb2 with
    | @tup p2 ys _ np2 ep2 rp2 =>
      refine ⟨p, p2, xs, ys, rfl, rfl, SqT.of ep, SqT.of ep2, by rw [rp.length, rp2.length]; exact Nat.le_trans hz (by decide), fun z => ?_, fun _ z => ?_, fun _ z l hl => ?_⟩
      · subst z
        cases rp
        exact q (.d (.tuple fs)) _ H ms (Wk.refl L H) ⟨hA, hb⟩ r
      · subst z
        cases rp2
        rw [List.append_nil] at r
        exact q (.d (.tuple es)) _ H ms (Wk.refl L H) ⟨hA, ha⟩ r
      · exact q (.d (.tuple (es ++ fs))) _ _ ms (Wk.new hl) ⟨hA.new hl, .tup (hA.fresh hl) upd_same (RpA.to (hA.wk (Wk.new hl)) _ _ (rp.append rp2))⟩ r
end
end Hc

namespace Hc
open PySem PySem.Spec PyProof.Rows L2
/-! ### zip(t, u, v) of three tuples -/
structure Apt3 (z t o c d f a b e : Addr) : Prop where
  sep : PySem.ZipSep3 z t o c d f [c, a] [d, b] [f, e]
  ac : a ≠ c
  bd : b ≠ d
  ef : e ≠ f
section
variable {K : PySem.W.Frag} {tA : TA} {ds : List SD} {ms : List MD} {R : RS} {t u : TS} {P : Po}
end
end Hc

namespace Hc
open PySem PySem.Spec PyProof.Rows L2
/-! ### t[::-1] of a tuple -/
section
variable {prog : Program} {w : World} {s : Shared} {A : Around} {E : Value → Shared → Prop}
/-! ### sorted(t) of a tuple of ints -/
end
section
variable {K : PySem.W.Frag} {te ta tb : TE} {ds : List SD} {ms : List MD} {R : RS}
end
end Hc

namespace Hc
open PySem PySem.Spec PyProof.Rows L2
/-! ### [e for x in xs for y in t] -/
structure Stays (M : List Addr) (H H' : Hp) : Prop where
  t : To M M H H'
  kd : ∀ a o, H a = some o → ∃ o', H' a = some o' ∧ kindO o' = kindO o
theorem Stays.refl (M : List Addr) (H : Hp) : Stays M H H := ⟨fun _ _ n e => ⟨n, e⟩, fun _ o e => ⟨o, e, rfl⟩⟩
theorem Stays.trans {M : List Addr} {H H1 H2 : Hp} (a : Stays M H H1) (b : Stays M H1 H2) : Stays M H H2 := ⟨fun x o n e => b.t x o n (a.t x o n e).2, fun x o e => by
  obtain ⟨o1, e1, k1⟩ := a.kd x o e
  obtain ⟨o2, e2, k2⟩ := b.kd x o1 e1
  exact ⟨o2, e2, k2.trans k1⟩⟩
theorem Stays.wk {L M : List Addr} {ms : List MD} {H H' : Hp} (a : At L M ms H) (w : Wk L H H') : Stays M H H' := ⟨a.wk w, w.kd⟩
theorem Stays.upd {M : List Addr} {H : Hp} {D : Addr} {xs ys : List V} (h : D ∈ M) (e : H D = some (.lst xs)) : Stays M H (upd H D (.lst ys)) := ⟨fun a o n q => ⟨n, by rw [upd_ne (fun z : a = D => n (by rw [z]; exact h))]; exact q⟩, (Wk.mut (L := M) h e).kd⟩
section
variable {K : PySem.W.Frag} {te ti tl : TE} {tt tt1 : TT} {ds : List SD} {ms : List MD} {R : RS}
end
/-! ### max(t) of a tuple of ints -/
theorem maxI (n : Int) (ns : List Int) : ∃ m : Int, PySem.W.maxD (.int n) (ns.map .int) = .int m ∧ n ≤ m ∧ (∀ y ∈ ns, y ≤ m) := by
  induction ns generalizing n with
  | nil => exact ⟨n, rfl, Int.le_refl _, nofun⟩
  | cons y r ih =>
    have e : PySem.W.maxD (.int n) ((y :: r).map .int) = PySem.W.maxD (if PySem.W.dataLt (.int n) (.int y) then .int y else .int n) (r.map .int) := rfl
    have lt : PySem.W.dataLt (.int n) (.int y) = decide (n < y) := PySem.W.dataLt_int ..
    rw [e, lt]
    by_cases h : n < y
    · rw [decide_eq_true h, if_pos rfl]
      obtain ⟨m, e1, e2, e3⟩ := ih y
      exact ⟨m, e1, by omega, fun z hz => (List.mem_cons.mp hz).elim (fun q => by rw [q]; exact e2) (e3 z)⟩
    · rw [decide_eq_false h, if_neg (by decide)]
      obtain ⟨m, e1, e2, e3⟩ := ih n
      exact ⟨m, e1, e2, fun z hz => (List.mem_cons.mp hz).elim (fun q => by rw [q]; omega) (e3 z)⟩
def rMaxT (K : PySem.W.Frag) : List V → Hp → VK → Prop := fun vs H Q => ∃ (a : Addr) (n : Int) (ns : List Int), vs = [V.ref a] ∧ SqT K H a ((n :: ns).map V.int) ∧ ∀ m, m ∈ n :: ns → (∀ y ∈ n :: ns, y ≤ m) → Q (.int m) H
theorem dpI {K : PySem.W.Frag} {H : Hp} : ∀ ns : List Int, DpAll K H (ns.map V.int) (ns.map PyData.int)
  | [] => .nil
  | n :: r => .cons (.int n) (dpI r)
theorem depI : ∀ ns : List Int, PyData.depthAll (ns.map PyData.int) = 0
  | [] => rfl
  | n :: r => by
    show PyData.depthAll (PyData.int n :: r.map PyData.int) = 0
    rw [PyData.depthAll, depI r]
    rfl
theorem cr_maxT {X : Cx} (hc : X.calm = true) (hu : X.A.units + 65 < cLine) : CallR X (.builtin "max") (rMaxT X.K) := by
  rintro pins s σ H vs us Q I r ⟨a, n, ns, rfl, sq, q⟩
  obtain ⟨its, rv, tp, zl⟩ := I.tuple sq
  rw [Vals.ref1 r]
  obtain ⟨as, ra⟩ := Dp.readsAll I ((n :: ns).map .int) ((n :: ns).map V.int) its (dpI _) rv
  obtain ⟨m, e1, e2, e3⟩ := maxI n ns
  refine PySem.W.max_tuple_data (vs := its.toArray) (x := .int n) (xs := ns.map .int) (I.ok.hd hc) tp ra ⟨fun x hx y hy => ?_, fun x hx => ?_⟩ ?_ fun i v h' tk bs hv rd hk => ?_
  · obtain ⟨x', _, rfl⟩ := List.mem_map.mp (show x ∈ (n :: ns).map PyData.int from hx)
    obtain ⟨y', _, rfl⟩ := List.mem_map.mp (show y ∈ (n :: ns).map PyData.int from hy)
    rfl
  · obtain ⟨x', _, rfl⟩ := List.mem_map.mp (show x ∈ (n :: ns).map PyData.int from hx)
    exact nofun
  · have : PyData.depthAll (PyData.int n :: ns.map PyData.int) = 0 := depI (n :: ns)
    rw [this]
    omega
  · rw [List.getElem?_toArray] at hv
    have hi := (List.getElem?_eq_some_iff.mp hv).1
    have hl := rv.length
    obtain ⟨u, h1, h2⟩ := rv.get (List.getElem?_eq_getElem (l := (n :: ns).map V.int) (i := i) (by omega))
    rw [hv] at h1
    cases h1
    rw [List.getElem_map] at h2
    obtain ⟨t, rfl⟩ := h2
    rw [e1] at rd
    have hi2 : i < (n :: ns).length := by rw [List.length_map] at hl; omega
    have em : (n :: ns)[i]'hi2 = m := by
      generalize (n :: ns)[i]'hi2 = x at rd
      cases rd
      rfl
    exact ⟨.int m, H, I.kept hk, ⟨t, by rw [em]⟩, q m (em ▸ List.getElem_mem _) fun y hy => (List.mem_cons.mp hy).elim (fun z => by rw [z]; exact e2) (e3 y)⟩
section
variable {K : PySem.W.Frag} {ms : List MD} {R : RS}
theorem rc_maxT {as : List SD} (h : ∃ ns : List Int, as = [.d (.tuple (ns.map .int))] ∧ 0 < ns.length ∧ ∀ m : Int, m ∈ ns → (∀ y ∈ ns, y ≤ m) → R (.d (.int m)) ms) : RC K (rMaxT K) as ms R := fun L M H vs hA ha Q q => by
  obtain ⟨ns, rfl, hl, r⟩ := h
  obtain ⟨v, t, rfl, hv, rfl⟩ := ha
  obtain ⟨p, xs, rfl, e1, hr⟩ := Sv.tup (ms := ms) (K := K) (L := L) (.d (.tuple (ns.map .int))) hv
  rw [RpA.ints_inv hr] at e1
  cases ns with
  | nil => simp at hl
  | cons n ns => exact ⟨p, n, ns, rfl, SqT.of e1, fun m h1 h2 => q (.d (.int m)) _ H ms (Wk.refl L H) ⟨hA, .int m⟩ (r m h1 h2)⟩
end
end Hc

namespace Hc
open PySem PySem.Spec PyProof.Rows L2
/-! ### dicts that may change, with rows as keys -/
def valT (m : List (List Key × PyData)) (k : List Key) : Option PyData := (m.find? fun kv => decide (kv.1 = k)).map (·.2)
def putT (m : List (List Key × PyData)) (k : List Key) (d : PyData) : List (List Key × PyData) :=
  if (m.any fun kv => decide (kv.1 = k)) = true then m.map (fun kv => if kv.1 = k then (kv.1, d) else kv) else m ++ [(k, d)]
/-- a row of keys, as it is handed in -/
abbrev rowK (k : List Key) : PyData := .tuple (k.map keyD)
section
variable {K : PySem.W.Frag} {L M : List Addr} {ms : List MD} {H H' : Hp}
theorem Rt.length : ∀ {m : List (List Key × PyData)} {kvs : List (List Key × V)}, Rt M H kvs m → kvs.length = m.length
  | _, _, .nil => rfl
  | _, _, .cons _ b => congrArg (· + 1) (Rt.length b)
theorem Rt.keys : ∀ {m : List (List Key × PyData)} {kvs : List (List Key × V)}, Rt M H kvs m → kvs.map (·.1) = m.map (·.1)
  | _, _, .nil => rfl
  | _, _, .cons _ b => by rw [List.map_cons, List.map_cons, Rt.keys b]
theorem Rt.val (k : List Key) {d : PyData} : ∀ {m : List (List Key × PyData)} {kvs : List (List Key × V)}, Rt M H kvs m → valT m k = some d → ∃ v, valV kvs k = some v ∧ Rp M H v d
  | _, _, .nil, e => by cases e
  | (k1, d1) :: m, (_, v1) :: kvs, .cons a b, e => by
    by_cases q : k1 = k
    · have : d1 = d := by simpa [valT, q] using e
      subst this
      exact ⟨v1, valV_pos q, a⟩
    · have e1 : valT ((k1, d1) :: m) k = valT m k := by simp [valT, List.find?_cons, q]
      rw [e1] at e
      rw [valV_neg q]
      exact Rt.val k b e
theorem Rt.put (k : List Key) {v : V} {d : PyData} {m : List (List Key × PyData)} {kvs : List (List Key × V)} (h : Rt M H kvs m) (r : Rp M H v d) : Rt M H (putK kvs k v) (putT m k d) := by
  have any : (kvs.any fun kv => decide (kv.1 = k)) = (m.any fun kv => decide (kv.1 = k)) := by
    induction h with
    | nil => rfl
    | cons _ _ ih => simp [ih]
  unfold putK putT
  rw [any]
  split
  · rename_i hsp
    clear any hsp
    induction h with
    | nil => exact .nil
    | @cons k1 v1 d1 kvs1 m1 a b ih =>
      rw [List.map_cons, List.map_cons]
      by_cases e : k1 = k
      · rw [if_pos e, if_pos e]
        exact .cons r ih
      · rw [if_neg e, if_neg e]
        exact .cons a ih
  · rename_i hsp
    clear any hsp
    induction h with
    | nil => exact .cons r .nil
    | cons a _ ih => exact .cons a ih
theorem rpa_keys : ∀ (k : List Key), RpA M H (k.map kV) (k.map keyD)
  | [] => .nil
  | a :: r => .cons (rp_key a) (rpa_keys r)
theorem keys_inv : ∀ {k : List Key} {xs : List V}, RpA M H xs (k.map keyD) → xs = k.map kV
  | [], _, h => by cases h; rfl
  | a :: r, _, h => by
    have h' : RpA M H _ (keyD a :: r.map keyD) := h
    cases h' with
    | cons z y => rw [Rp.key z, keys_inv y]; rfl
theorem row_key {v : V} {k : List Key} (h : Rp M H v (rowK k)) : ∃ b, v = .ref b ∧ H b = some (.tup (k.map kV)) := by
  cases h with
  | tup n e r => exact ⟨_, rfl, by rw [e, keys_inv r]⟩
theorem At.getT (h : At L M ms H) {k : Nat} {p : Addr} {m : List (List Key × PyData)} (hk : L[k]? = some p) (e : ms[k]? = some (.t m)) : ∃ kvs, H p = some (.dT kvs) ∧ Rt M H kvs m := h.ok k p _ hk e
/-- one thing changed -/
theorem At.putO (h : At L M ms H) {k : Nat} {p : Addr} {o o0 : HO} {x : MD} (hk : L[k]? = some p) (e0 : H p = some o0) (kd : kindO o = kindO o0) (no : NTup o) (r : To M M H (upd H p o) → MOk L M (upd H p o) k p x) : At L M (ms.set k x) (upd H p o) := by
  have hp : p ∈ L := List.mem_of_getElem? hk
  have t : To M M H (upd H p o) := h.wk (Wk.mut hp e0 kd)
  have one : ∀ (j : Nat) (q : Addr), L[j]? = some q → j ≠ k → q ≠ p := fun j q ej hj z => by
    obtain ⟨_, e1⟩ := List.getElem?_eq_some_iff.mp ej
    obtain ⟨_, e2⟩ := List.getElem?_eq_some_iff.mp hk
    exact hj ((List.getElem_inj h.nd).mp (e1.trans (z.trans e2.symm)))
  constructor
  · exact h.nd
  · exact h.sub
  · intro q hq
    by_cases e : q = p
    · exact ⟨o, by rw [e]; exact upd_same, no⟩
    · obtain ⟨o', e1, e2⟩ := h.al q hq
      exact ⟨o', by rw [upd_ne e]; exact e1, e2⟩
  · rw [List.length_set]
    exact h.ln
  · intro j q y e1 e2
    by_cases hj : j = k
    · subst hj
      have hjl : j < ms.length := by rw [← h.ln]; exact (List.getElem?_eq_some_iff.mp e1).1
      rw [List.getElem?_set_self hjl] at e2
      rw [hk] at e1
      cases e1
      cases e2
      exact r t
    · rw [List.getElem?_set_ne (fun z => hj z.symm)] at e2
      exact (h.ok j q y e1 e2).to t (upd_ne (one j q e1 hj))
theorem At.growO {p : Addr} {o : HO} {x : MD} (h : At L M ms H) (hp : H p = none) (no : NTup o) (r : To M (M ++ [p]) H (upd H p o) → MOk (L ++ [p]) (M ++ [p]) (upd H p o) L.length p x) : At (L ++ [p]) (M ++ [p]) (ms ++ [x]) (upd H p o) := by
  have a := h.hide hp no
  have nl := h.freshL hp
  have t : To M (M ++ [p]) H (upd H p o) := to_new h hp (Wk.new hp)
  constructor
  · exact List.nodup_append.mpr ⟨h.nd, by simp, fun b hb c hc z => nl (by rw [List.mem_singleton.mp hc] at z; exact z ▸ hb)⟩
  · intro q hq
    rcases List.mem_append.mp hq with z | z
    · exact a.sub q z
    · exact List.mem_append_right _ z
  · exact a.al
  · rw [List.length_append, List.length_append, h.ln]
    rfl
  · intro j q y e1 e2
    rcases Nat.lt_or_ge j L.length with hj | hj
    · rw [List.getElem?_append_left hj] at e1
      rw [List.getElem?_append_left (by rw [← h.ln]; exact hj)] at e2
      exact (a.ok j q y e1 e2).toL (fun _ _ n e => ⟨n, e⟩) (fun k' q' _ z => by rw [List.getElem?_append_left (List.getElem?_eq_some_iff.mp z).1]; exact z) rfl
    · have hjl := (List.getElem?_eq_some_iff.mp e1).1
      have ej : j = L.length := by
        rw [List.length_append] at hjl
        have : j < L.length + 1 := hjl
        omega
      subst ej
      have ep : p = q := by simpa using e1
      rw [h.ln] at e2
      have ex : x = y := by simpa using e2
      subst ep ex
      exact r t
theorem At.lastT {p : Addr} {m : List (List Key × PyData)} (h : At (L ++ [p]) (M ++ [p]) (ms ++ [.t m]) H) : ∃ kvs, H p = some (.dT kvs) := by
  have hl : L.length = ms.length := by have := h.ln; simp at this; exact this
  obtain ⟨kvs, e, _⟩ := h.ok L.length p (.t m) (by simp) (by rw [hl]; simp)
  exact ⟨kvs, e⟩
variable {te ta tb td ty : TE} {tA : TA} {ds : List SD} {R : RS} {t u : TS} {P : Po}
theorem e_dgetT (h : E K td ds ms fun s ms1 => ∃ k, s = .q k ∧ E K ty ds ms1 fun y ms2 => ∃ m key d, ms2[k]? = some (.t m) ∧ dd y = .d (rowK key) ∧ valT m key = some d ∧ R (.d d) ms2) : E K (tDGet td ty) ds ms R := fun L M σ H hS hA Q q =>
  h L M σ H hS hA _ fun s x H1 ms1 w1 o1 ⟨k, ek, h1⟩ => h1 L M σ H1 (hS.mono hA w1) o1.at _ fun y z H2 ms2 w2 o2 ⟨m, key, d, em, ey, hv, r⟩ => by
    subst ek
    obtain ⟨_, p, rfl, hp, _⟩ := o1
    have a2 := o2.at
    have oz := o2.sl
    rw [ey] at oz
    obtain ⟨b, rfl, eb⟩ := row_key oz
    obtain ⟨kvs, e1, r1⟩ := a2.getT hp em
    obtain ⟨v, e2, e3⟩ := r1.val key hv
    exact ⟨p, v, rfl, .inr ⟨kvs, key, b, .inl e1, rfl, eb, e2.symm⟩, q (.d d) v H2 ms2 (w1.trans w2) ⟨a2, e3⟩ r⟩
theorem egh_setT {to ti : TE} {d : PyData} {N : List MD → Prop} (h : E K to ds ms fun s ms1 => ∃ k, s = .q k ∧ E K ti ds ms1 fun y ms2 => ∃ (key : List Key) (m : List (List Key × PyData)), dd y = .d (rowK key) ∧ ms2[k]? = some (.t m) ∧ m.length < 10000 ∧ N (ms2.set k (.t (putT m key d)))) :
    EGh K (gSub to ti rSetD) (.d d) ds ms N := fun L M σ H v hS hA ho C c =>
  h L M σ H hS hA _ fun s x H1 ms1 w1 o1 ⟨k, ek, h1⟩ => h1 L M σ H1 (hS.mono hA w1) o1.at _ fun y z H2 ms2 w2 o2 ⟨key, m, ey, em, hl, hn⟩ => by
    subst ek
    obtain ⟨_, p, rfl, hp, _⟩ := o1
    have a2 := o2.at
    have oz := o2.sl
    rw [ey] at oz
    obtain ⟨b, rfl, eb⟩ := row_key oz
    obtain ⟨kvs, e1, r1⟩ := a2.getT hp em
    have rv : Rp M H2 v d := Rp.to (hA.wk (w1.trans w2)) _ _ ho
    refine ⟨p, _, rfl, .inr ⟨kvs, key, b, e1, rfl, eb, by rw [r1.length]; exact Nat.lt_trans hl (by decide), rfl⟩, ?_⟩
    exact c _ _ ((w1.trans w2).trans (Wk.mut (List.mem_of_getElem? hp) e1)) (a2.putO (x := .t (putT m key d)) hp e1 rfl trivial fun t => ⟨_, upd_same, (r1.put key rv).toP t⟩) hn
/-! a new one, until the block's end -/
def frzST (n : Nat) : SD → SD
  | .q k => if k = n then .u else .q k
  | s => s
def Po.frzT (P : Po) (n : Nat) : Po where
  nx := fun ds' ms' => ∃ ms1 m, ms' = ms1 ++ [.t m] ∧ ms1.length = n ∧ P.nx (ds'.map (frzST n)) ms1
  rt := fun s ms' => ∃ ms1 m, ms' = ms1 ++ [.t m] ∧ ms1.length = n ∧ (∃ x, s = .d x ∨ ∃ fs, s = .f fs) ∧ P.rt s ms1
  bk := fun ds' ms' => ∃ ms1 m, ms' = ms1 ++ [.t m] ∧ ms1.length = n ∧ P.bk (ds'.map (frzST n)) ms1
  ct := fun ds' ms' => ∃ ms1 m, ms' = ms1 ++ [.t m] ∧ ms1.length = n ∧ P.ct (ds'.map (frzST n)) ms1
theorem Sl.frzT {σ : L2.St} {p : Addr} {m : List (List Key × PyData)} {ms1 : List MD} (a : At (L ++ [p]) (M ++ [p]) (ms1 ++ [.t m]) H) (h : Sl K (L ++ [p]) (M ++ [p]) σ H ds) : Sl K L M σ H (ds.map (frzST ms1.length)) := fun i s e => by
  have hl : L.length = ms1.length := by have := a.ln; simp at this; exact this
  obtain ⟨kvs, ep⟩ := a.lastT
  have low : ∀ {k : Nat} {q : Addr}, (L ++ [p])[k]? = some q → q ≠ p → L[k]? = some q := fun {k q} e1 n => by
    have h1 := (List.getElem?_eq_some_iff.mp e1).1
    rcases Nat.lt_or_ge k L.length with z | z
    · rwa [List.getElem?_append_left z] at e1
    · rw [List.getElem?_append_right z] at e1
      have := List.mem_of_getElem? e1
      exact absurd (List.mem_singleton.mp this) n
  rw [List.getElem?_map] at e
  cases q : ds[i]? with
  | none => rw [q] at e; cases e
  | some s0 =>
    rw [q] at e
    have e' : frzST ms1.length s0 = s := Option.some.inj e
    subst e'
    have lt : i < σ.length := h.lt (List.getElem?_eq_some_iff.mp q).1
    cases s0 with
    | u => exact lt
    | f es => exact h i _ q |>.elim fun _ z => z.2.elim
    | g es => exact h i _ q |>.elim fun _ z => z.2.elim
    | d x =>
      obtain ⟨v, e1, e2⟩ := h i _ q
      exact ⟨v, e1, Rp.to to_less _ _ e2⟩
    | v x =>
      obtain ⟨v, e1, e2⟩ := h i _ q
      exact ⟨v, e1, e2⟩
    | w φ =>
      obtain ⟨v, e1, e2, st⟩ := h i _ q
      exact ⟨v, e1, st _ _ _ _ _ to_less e2, st⟩
    | h φ =>
      obtain ⟨v, e1, b, e2, n, e3⟩ := h i _ q
      exact ⟨v, e1, b, e2, fun z => n (List.mem_append_left _ z), e3⟩
    | s ns =>
      obtain ⟨v, e1, b, e2, e3⟩ := h i _ q
      refine ⟨v, e1, b, e2, ?_⟩
      rcases e3 with ⟨n, y⟩ | y
      · exact .inl ⟨fun z => n (List.mem_append_left _ z), y⟩
      · exact .inr y
    | m k =>
      obtain ⟨v, e1, b, e2, e3, xs, e4⟩ := h i _ q
      refine ⟨v, e1, b, e2, low e3 fun z => ?_, xs, e4⟩
      rw [z, ep] at e4
      cases e4
    | o k =>
      obtain ⟨v, e1, b, e2, e3, e4⟩ := h i _ q
      refine ⟨v, e1, b, e2, low e3 fun z => ?_, e4⟩
      rw [z] at e4
      exact e4.notT ep
    | q k =>
      obtain ⟨v, e1, b, e2, e3, e4⟩ := h i _ q
      by_cases hk : k = ms1.length
      · have : frzST ms1.length (.q k) = .u := if_pos hk
        rw [this]
        exact lt
      · have : frzST ms1.length (.q k) = .q k := if_neg hk
        rw [this]
        refine ⟨v, e1, b, e2, ?_, e4⟩
        have h1 := (List.getElem?_eq_some_iff.mp e3).1
        rw [List.length_append] at h1
        have h2 : k < L.length + 1 := h1
        rwa [List.getElem?_append_left (by omega)] at e3
theorem s_newT {i : Nat} (h : S K u (ds.set i (.q ms.length)) (ms ++ [.t []]) (P.frzT ms.length)) : S K (tSeq (tAsg tDNewT (gName i)) u) ds ms P := fun L M σ H hS hA D n r b c p hp => by
  have np := hA.fresh hp
  have a1 : At (L ++ [p]) (M ++ [p]) (ms ++ [.t []]) (upd H p (.dT [])) := hA.growO hp trivial fun _ => ⟨[], upd_same, .nil⟩
  have w : Wk L H (upd H p (.dT [])) := Wk.new hp
  have t : To M (M ++ [p]) H (upd H p (.dT [])) := to_new hA hp w
  have hS1 : Sl K (L ++ [p]) (M ++ [p]) (σ.set i (some (.ref p))) (upd H p (.dT [])) (ds.set i (.q ms.length)) := by
    refine (hS.to t w.kd fun k q e => ?_).set i ⟨p, rfl, by rw [← hA.ln]; simp, ⟨_, upd_same, .inr rfl⟩⟩
    rw [List.getElem?_append_left (List.getElem?_eq_some_iff.mp e).1]
    exact e
  have wk : ∀ {H2 : Hp}, Wk (L ++ [p]) (upd H p (.dT [])) H2 → Wk L H H2 := fun {H2} w2 => by
    constructor
    · intro x y nx ex
      have hx : x ≠ p := ne_of_none ex hp
      exact w2 x y (fun z => (List.mem_append.mp z).elim nx fun z => hx (List.mem_singleton.mp z)) (by rw [upd_ne hx]; exact ex)
    · intro x y ex
      exact w2.kd x y (by rw [upd_ne (ne_of_none ex hp)]; exact ex)
  have go : ∀ {N : List SD → List MD → Prop} {C : L2.St → Hp → Prop}, Nx K L M H N C → Nx K (L ++ [p]) (M ++ [p]) (upd H p (.dT [])) (fun ds' ms' => ∃ ms1 m, ms' = ms1 ++ [.t m] ∧ ms1.length = ms.length ∧ N (ds'.map (frzST ms.length)) ms1) C := by
    intro N C nn σ2 H2 ds2 ms2 w2 s2 a2 ⟨ms3, m3, e3, l3, n3⟩
    subst e3
    rw [← l3] at n3
    exact nn σ2 H2 _ ms3 (wk w2) (s2.frzT a2) (a2.drop hA.sub) n3
  refine h (L ++ [p]) (M ++ [p]) _ _ hS1 a1 D (go n) ?_ (go b) (go c)
  rintro s2 v2 H2 ms2 w2 o2 ⟨ms3, m3, rfl, l3, ⟨x, hx⟩, n3⟩
  refine r s2 v2 H2 ms3 (wk w2) ?_ n3
  rcases hx with rfl | ⟨fs, rfl⟩
  · exact ⟨o2.1.drop hA.sub, Rp.to to_less _ _ o2.2⟩
  · obtain ⟨q, rfl, hq, nq, aq, _⟩ := o2
    have nqM : q ∉ M := fun z => nq (List.mem_append_left _ z)
    have nqp : q ≠ p := fun z => nq (List.mem_append_right _ (by simp [z]))
    rw [upd_ne nqp] at hq
    exact ⟨q, rfl, hq, nqM, At.dropMid rfl aq hA.sub, hA.sub⟩
end
end Hc

namespace Hc
open PySem PySem.Spec PyProof.Rows L2
section
variable {prog : Program} {w : World} {A : Around} {E : Value → Shared → Prop} {s : Shared}
/-! ### sorted(d) of a dict with rows as keys -/
theorem collect_src {T : String} {r d : Addr} {n : Nat} {P : Nat → Value → Prop} {OK : Heap → Prop} {Q : List Value → Shared → Prop} (S : PySem.W.KdlSrc prog w T r d n P OK) (hh : A.handled = none) (ok : OK s.heap) (hn : n ≤ sizeLine)
    (h : ∀ (h' : Heap) (tk : Nat) (acc : Array Value), (∀ b o, s.heap.get? b = some o → h'.get? b = some o) → s.heap.objs.size ≤ h'.objs.size → ItemsOf P acc n → Q acc.toList { s with heap := h', toks := tk }) : wpAny (model prog w) A (collect (.ref r)) Q E s := by
  have new : (s.heap.push (seqObj "list" #[] 0)).get? s.heap.objs.size = some (seqObj "list" #[] 0) := Heap.get?_push_size _ rfl
  have old : ∀ b u, s.heap.get? b = some u → (s.heap.push (seqObj "list" #[] 0)).get? b = some u := fun b u z => Heap.get?_push_of_some _ z
  obtain ⟨lr, ld⟩ := S.there _ ok
  unfold collect
  refine wpAny_bind (wpAny_runValue (codeAny_builtin PyProof.Rows.entry_proto_collect' ?_))
  show wpAny _ _ (newList [] >>= fun l => again (.builtin "list.__iadd__" ⟨[l, .ref r], []⟩)) _ _ s
  refine wpAny_bind (wpAny_newList (wpAny_pure ⟨Code.quiet_builtin _ (by decide +kernel), codeAny_builtin PyProof.Rows.entry_list_iadd' ?_⟩))
  have run := PySem.W.kdl_extend (A := A) (s := { s with heap := s.heap.push (seqObj "list" #[] 0) }) (R := fun (y : Result) (s2 : Shared) => y = .ok (.ret (.ref s.heap.objs.size)) ∧ ∃ (h2 : Heap) (tk : Nat) (acc : Array Value) (c : Nat), s2 = { s with heap := h2, toks := tk } ∧
      (∀ b o, b ≠ s.heap.objs.size → (s.heap.push (seqObj "list" #[] 0)).get? b = some o → h2.get? b = some o) ∧ h2.get? s.heap.objs.size = some { cls := .type "list", dict := none, data := .seq acc c, slots := #[] } ∧ ItemsOf P acc n)
    S hh (S.keep _ _ ok fun b _ o z => old b o z) s.heap.objs.size (Nat.ne_of_gt lr) (Nat.ne_of_gt ld) (.ref s.heap.objs.size) 0 new (fun h2 tk acc c k1 k2 k3 => ⟨rfl, h2, tk, acc, c, rfl, k1, k2, k3⟩) hn
  have last : ∀ {s2 : Shared} {y : Result}, (y = .ok (.ret (.ref s.heap.objs.size)) ∧ ∃ (h2 : Heap) (tk : Nat) (acc : Array Value) (c : Nat), s2 = { s with heap := h2, toks := tk } ∧
      (∀ b o, b ≠ s.heap.objs.size → (s.heap.push (seqObj "list" #[] 0)).get? b = some o → h2.get? b = some o) ∧ h2.get? s.heap.objs.size = some { cls := .type "list", dict := none, data := .seq acc c, slots := #[] } ∧ ItemsOf P acc n) →
      ∃ (h2 : Heap) (tk : Nat) (acc : Array Value) (c : Nat), y = .ok (.ret (.ref s.heap.objs.size)) ∧ s2 = { s with heap := h2, toks := tk } ∧ h2.get? s.heap.objs.size = some { cls := .type "list", dict := none, data := .seq acc c, slots := #[] } ∧ Q acc.toList s2 := by
    rintro s2 y ⟨ey, h2, tk, acc, c, es, k1, k2, k3⟩
    refine ⟨h2, tk, acc, c, ey, es, k2, ?_⟩
    subst es
    exact h h2 tk acc (fun b o z => k1 b o (Nat.ne_of_lt (Heap.lt_size z)) (old b o z)) (Nat.le_of_lt (Heap.lt_size k2)) k3
  rw [Around.under_plainId (by decide +kernel) _]
  refine wpAny_mono run ?_ fun e2 s2 z => (by cases z.1)
  rintro (f | c2) s2 z
  · obtain ⟨h2, tk, acc, c, ey, es, k2, k3⟩ := last z
    cases ey
    subst es
    exact wpAny_bind (wpAny_load k2 (wpAny_pure k3))
  · refine ⟨z.1, codeAny_mono z.2 fun y s3 z3 => ?_⟩
    obtain ⟨h2, tk, acc, c, ey, es, k2, k3⟩ := last z3
    subst ey es
    exact wpAny_bind (wpAny_load k2 (wpAny_pure k3))
theorem sorted_any {β : Type} {x : Value} {vs : List Value} {bs : List β} {R : Value → β → Prop} {enc : β → PyData} {Q : Value → Shared → Prop}
    (hcol : ∀ (E' : Value → Shared → Prop) (Q' : List Value → Shared → Prop), (∀ (h' : Heap) (tk : Nat), (∀ b o, s.heap.get? b = some o → h'.get? b = some o) → s.heap.objs.size ≤ h'.objs.size → Q' vs { s with heap := h', toks := tk }) → wpAny (model prog w) A.in1 (collect x) Q' E' s)
    (e : PySem.W.EachIs R vs bs) (er : PySem.W.EachIs (fun v b => ∃ as, Reads s.heap v (enc b) as) vs bs) (al : PySem.W.AllAlike (bs.map enc)) (so : PySem.W.Sortable (bs.map enc)) (hz : bs.length ≤ sizeLine)
    (hu : ∀ b, b ∈ bs → A.units + 2 + (enc b).depth < cLine)
    (h : ∀ (out : List Value) (h' : Heap) (tk p ep : Nat), PySem.W.EachIs R out (bs.mergeSort (PySem.W.dataLe false enc)) → s.heap.objs.size ≤ p → (∀ b o, s.heap.get? b = some o → h'.get? b = some o) → h'.get? p = some (seqObj "list" out.toArray ep) → Q (.ref p) { s with heap := h', toks := tk }) :
    wpAny (model prog w) A (call (.builtin "sorted") [x]) Q E s := by
  refine Calls.call_function_entry kind_sorted plain_sorted entry_sorted (args_sorted1 _) (show wpAny _ _ (Builtin.«sorted» _) _ _ _ from ?_)
  rw [Builtin.«sorted»]
  refine wpAny_bind (m := checkCount "sorted" 1 1 _) (wpAny_pure (wpAny_bind (hcol _ _ fun h1 tk k1 z1 => wpAny_bind (wpAny_newList ?_ (by rw [e.length]; exact hz)))))
  have at1 : (h1.push (seqObj "list" vs.toArray 0)).get? h1.objs.size = some (seqObj "list" vs.toArray 0) := Heap.get?_push_size _ rfl
  have er1 : PySem.W.EachIs (fun v b => ∃ as, Reads (h1.push (seqObj "list" vs.toArray 0)) v (enc b) as ∧ h1.objs.size ∉ as) vs bs := er.mono fun v b ⟨as, r⟩ => ⟨as, PyProof.Rows.Reads.keeps (fun b o z => Heap.get?_push_of_some _ (k1 b o z)) r, fun m => by
    obtain ⟨o, eo⟩ := PyProof.On.reads_mem_get r _ m
    exact absurd (Heap.lt_size (k1 _ _ eo)) (Nat.lt_irrefl _)⟩
  refine wpAny_bind (wpAny_holding (PySem.W.list_sort_data at1 e er1 al so hz (fun b hb => ?_) fun out _ eo => wpAny_pure ⟨_, rfl, ?_⟩))
  · have := hu b hb
    show A.in1.units + 1 + _ < _
    have : A.in1.units = A.units + 1 := rfl
    omega
  obtain ⟨ep, e2⟩ := PyProof.Rows.sortedHeap_at (vs := vs) (out := out.toArray) at1
  refine h out _ tk _ ep eo z1 (fun b u z => ?_) e2
  have lb := Heap.lt_size (k1 b u z)
  rw [PyProof.Rows.sortedHeap_old (Nat.ne_of_lt lb) (by rw [size_push']; exact Nat.lt_succ_of_lt lb)]
  exact Heap.get?_push_of_some _ (k1 b u z)
end
/-- the keys' rows, as they lie in the heap -/
def KeyAt (H : Hp) (bs : List (Addr × List Key)) (kvs : List (List Key × V)) : Prop := bs.map (·.2) = kvs.map (·.1) ∧ ∀ b ∈ bs, H b.1 = some (.tup (b.2.map kV))
def rSortK : List V → Hp → VK → Prop := fun vs H Q => ∃ (a : Addr) (kvs : List (List Key × V)), vs = [.ref a] ∧ H a = some (.dT kvs) ∧ PySem.W.AllAlike (kvs.map fun p => rowK p.1) ∧ PySem.W.Sortable (kvs.map fun p => rowK p.1) ∧
  ∀ (bs : List (Addr × List Key)) (p : Addr), KeyAt H bs kvs → H p = none → Q (.ref p) (upd H p (.lst ((bs.mergeSort (PySem.W.dataLe false fun b => rowK b.2)).map fun b => V.ref b.1)))
theorem key_depth (k : Key) : (keyD k).depth = 0 := by cases k <;> rfl
theorem row_depth (k : List Key) : (rowK k).depth ≤ 1 := by
  have h : ∀ k : List Key, PyData.depthAll (k.map keyD) = 0 := fun k => by
    induction k with
    | nil => rfl
    | cons a r ih => simp [PyData.depthAll, key_depth, ih]
  show PyData.depthAll (k.map keyD) + 1 ≤ 1
  rw [h]
  exact Nat.le_refl _
theorem dp_keys {K : PySem.W.Frag} {H : Hp} : ∀ k : List Key, DpAll K H (k.map kV) (k.map keyD)
  | [] => .nil
  | a :: r => .cons (by cases a; exact .int _; exact .str _) (dp_keys r)
theorem each_ref : ∀ {bs : List (Addr × List Key)}, PySem.W.EachIs (fun (u : Value) (b : Addr × List Key) => u = .ref b.1) (bs.map fun b => Value.ref b.1) bs
  | [] => .nil
  | _ :: _ => .cons rfl each_ref
theorem vals_ref : ∀ {bs : List (Addr × List Key)} {us : List Value}, PySem.W.EachIs (fun (u : Value) (b : Addr × List Key) => u = .ref b.1) us bs → Vals (bs.map fun b => V.ref b.1) us
  | [], _, h => by cases h; exact .nil
  | b :: r, _, h => by
    cases h with
    | cons z y => subst z; exact .cons rfl (vals_ref y)
theorem key_at {H : Hp} {kvs : List (List Key × V)} {ks : List (List Key × Addr × Value)} (pr : KT H kvs ks) : KeyAt H (ks.map fun x => (x.2.1, x.1)) kvs := by
  induction pr with
  | nil => exact ⟨rfl, fun _ h => by cases h⟩
  | @cons p x ps xs h0 _ ih =>
    refine ⟨?_, fun b hb => ?_⟩
    · rw [List.map_cons, List.map_cons, List.map_cons, ih.1, h0.1]
    · rcases List.mem_cons.mp hb with rfl | hb
      · show H x.2.1 = some (.tup (x.1.map kV))
        rw [← h0.1]
        exact h0.2.1
      · exact ih.2 b hb
theorem cr_sortK {X : Cx} (hc : X.calm = true) (hu : X.A.units + 64 < cLine) : CallR X (.builtin "sorted") rSortK := by
  rintro pins s σ H vs us Q I r ⟨a, kvs, rfl, hd, al, so, q⟩
  obtain ⟨z, hs, ks, pr, o, es, ep, ho, hx, hdt, he, hn⟩ := (show ObjOk X.prog X.w H s.heap a (.dT kvs) from I.hok a _ hd)
  rw [Vals.ref1 r]
  have ka := key_at pr
  have lb : (ks.map fun x => ((x.2.1, x.1) : Addr × List Key)).length ≤ sizeLine := by
    have := congrArg List.length ka.1
    simp only [List.length_map] at this ⊢
    rw [this]
    exact z
  have le : es.size ≤ sizeLine := by
    rw [size_of_entries he]
    rw [List.length_map] at lb
    exact lb
  have ev : (es.toList.map fun en => en.key) = (ks.map fun x => ((x.2.1, x.1) : Addr × List Key)).map fun b => Value.ref b.1 := by
    rw [he, List.map_map, List.map_map]
    rfl
  generalize ks.map (fun x => ((x.2.1, x.1) : Addr × List Key)) = bs at ka lb ev
  have km : bs.map (fun b => rowK b.2) = kvs.map fun p => rowK p.1 := by
    have := congrArg (List.map rowK) ka.1
    rw [List.map_map, List.map_map] at this
    exact this
  refine sorted_any (bs := bs) (vs := bs.map fun b => Value.ref b.1) (R := fun u b => u = .ref b.1) (enc := fun b => rowK b.2) (fun E' Q' k => ?_) each_ref ?_ (by rw [km]; exact al) (by rw [km]; exact so) lb (fun b hb => ?_) fun out h' tk p ep' eo hp kp e2 => ?_
  · refine collect_src (kdl_raw hs hx hdt) (I.ok.hd hc) ho le fun h' tk acc k1 k2 k3 => ?_
    have ea : acc = es.map fun en => en.key := by
      apply Array.ext
      · rw [Array.size_map]
        exact k3.1
      · intro i hi _
        obtain ⟨en, e1, e2⟩ := k3.2 i acc[i] (Array.getElem?_eq_getElem hi)
        rw [e2, Array.getElem_map]
        have h3 : i < es.size := by rw [← k3.1]; exact hi
        rw [Array.getElem?_eq_getElem h3] at e1
        rw [Option.some.inj e1]
    have : acc.toList = bs.map fun b => Value.ref b.1 := by
      rw [ea, Array.toList_map, ev]
    rw [this]
    exact k h' tk k1 k2
  · refine (PySem.W.each_mem each_ref).mono fun u b ⟨e1, m⟩ => ?_
    exact Dp.reads I (rowK b.2) (.ref b.1) u (.tup (SqT.of (ka.2 b m)) (dp_keys _)) e1
  · have := row_depth b.2
    omega
  · have lm : ((bs.mergeSort (PySem.W.dataLe false fun b => rowK b.2)).map fun b => V.ref b.1).length ≤ sizeLine := by
      rw [List.length_map, List.length_mergeSort]
      exact lb
    exact ⟨.ref p, _, I.laid (t' := tk) kp hp (show ObjOk X.prog X.w _ _ _ (.lst _) from ⟨lm, out, ep', vals_ref eo, e2⟩), rfl, q bs p ka (I.hok.fresh hp)⟩
section
variable {K : PySem.W.Frag} {ms : List MD} {R : RS}
theorem rc_sortK {as : List SD} (h : ∃ (k : Nat) (m : List (List Key × PyData)), as = [.q k] ∧ ms[k]? = some (.t m) ∧ PySem.W.AllAlike (m.map fun p => rowK p.1) ∧ PySem.W.Sortable (m.map fun p => rowK p.1) ∧ R (.f (sortD (m.map fun p => rowK p.1))) ms) : RC K rSortK as ms R := fun L M H vs hA ha Q q => by
  obtain ⟨k, m, rfl, hk, al, so, r⟩ := h
  obtain ⟨v, t, rfl, ⟨p, rfl, hp, _⟩, rfl⟩ := ha
  obtain ⟨kvs, e1, rt⟩ := hA.getT hp hk
  have km : kvs.map (fun p => rowK p.1) = m.map fun p => rowK p.1 := by
    have := congrArg (List.map rowK) rt.keys
    rw [List.map_map, List.map_map] at this
    exact this
  refine ⟨p, kvs, rfl, e1, by rw [km]; exact al, by rw [km]; exact so, fun bs l kb hl => ?_⟩
  have bm : bs.map (fun b => rowK b.2) = m.map fun p => rowK p.1 := by
    have := congrArg (List.map rowK) kb.1
    rw [List.map_map, List.map_map] at this
    rw [← km]
    exact this
  have e2 : (bs.mergeSort (PySem.W.dataLe false fun b => rowK b.2)).map (fun b => rowK b.2) = sortD (m.map fun p => rowK p.1) := by
    rw [← bm]
    exact PySem.W.sort_maps (r := PySem.W.dataLe false fun b : Addr × List Key => rowK b.2) (s := PySem.W.dataLe false id) (fun b : Addr × List Key => rowK b.2) (l := bs) fun a _ b _ => rfl
  have all : ∀ bs : List (Addr × List Key), (∀ b ∈ bs, H b.1 = some (.tup (b.2.map kV))) → RpA M H (bs.map fun b => V.ref b.1) (bs.map fun b => rowK b.2) := fun bs => by
    induction bs with
    | nil => exact fun _ => .nil
    | cons b r ih =>
      intro hb
      refine .cons (.tup (fun z => ?_) (hb b (by simp)) (rpa_keys _)) (ih fun c hc => hb c (by simp [hc]))
      obtain ⟨o, eo, no⟩ := hA.al _ z
      rw [hb b (by simp)] at eo
      cases eo
      exact no
  have rr := all (bs.mergeSort (PySem.W.dataLe false fun b => rowK b.2)) fun b hb => kb.2 b (List.mem_mergeSort.mp hb)
  rw [e2] at rr
  exact q (.f (sortD (m.map fun p => rowK p.1))) _ _ ms (Wk.new hl) (out_new hA (Wk.refl L H) hl rr) r
end
end Hc

namespace Hc
open PySem PySem.Spec PyProof.Rows L2
/-! ### a dict of lists that grow: d.setdefault(k, []).append(x) -/
def addL (k : Key) (d : PyData) : List (Key × List PyData) → List (Key × List PyData)
  | [] => [(k, [d])]
  | e :: r => if e.1 = k then (e.1, e.2 ++ [d]) :: r else e :: addL k d r
/-- the lists are new against H0, and no two are one -/
inductive Lv (H0 : Hp) (M : List Addr) (p : Addr) (H : Hp) : List (Key × V) → List (Key × List PyData) → Prop
  | nil : Lv H0 M p H [] []
  | cons {k : Key} {q : Addr} {xs : List V} {es : List PyData} {kvs : List (Key × V)} {m : List (Key × List PyData)} : H0 q = none → q ≠ p → H q = some (.lst xs) → RpA M H0 xs es → (∀ x ∈ kvs, x.2 ≠ .ref q) → Lv H0 M p H kvs m → Lv H0 M p H ((k, .ref q) :: kvs) ((k, es) :: m)
section
variable {H0 H H' : Hp} {M : List Addr} {p : Addr}
theorem Lv.else {q : Addr} (w : ∀ a, a ≠ q → H' a = H a) : ∀ {kvs : List (Key × V)} {m : List (Key × List PyData)}, Lv H0 M p H kvs m → (∀ x ∈ kvs, x.2 ≠ .ref q) → Lv H0 M p H' kvs m
  | _, _, .nil, _ => .nil
  | _, _, .cons (q := q1) a b c d e f, n => by
    have hq : q1 ≠ q := fun z => n _ (List.mem_cons_self ..) (by rw [z])
    exact .cons a b (by rw [w q1 hq]; exact c) d e (Lv.else w f fun x hx => n x (List.mem_cons_of_mem _ hx))
theorem Lv.length : ∀ {kvs : List (Key × V)} {m : List (Key × List PyData)}, Lv H0 M p H kvs m → kvs.length = m.length
  | _, _, .nil => rfl
  | _, _, .cons _ _ _ _ _ f => congrArg (· + 1) (Lv.length f)
theorem Lv.apart {q : Addr} (hq : H q = none) : ∀ {kvs : List (Key × V)} {m : List (Key × List PyData)}, Lv H0 M p H kvs m → ∀ x ∈ kvs, x.2 ≠ .ref q
  | _, _, .nil, x, hx => by cases hx
  | _, _, .cons a b c d e f, x, hx => by
    rcases List.mem_cons.mp hx with rfl | hx
    · intro z
      injection z with z
      rw [z, hq] at c
      cases c
    · exact Lv.apart hq f x hx
/-- one more at a key that is there -/
theorem Lv.more {k : Key} {y : V} {d : PyData} (ry : Rp M H0 y d) {v : V} : ∀ {kvs : List (Key × V)} {m : List (Key × List PyData)}, Lv H0 M p H kvs m → valV kvs k = some v →
    ∃ q xs, v = .ref q ∧ q ≠ p ∧ H q = some (.lst xs) ∧ H0 q = none ∧ (∃ x ∈ kvs, x.2 = .ref q) ∧ (∃ es, (k, es) ∈ m ∧ xs.length = es.length) ∧ Lv H0 M p (upd H q (.lst (xs ++ [y]))) kvs (addL k d m)
  | _, _, .nil, e => by cases e
  | _, _, .cons (k := k1) (q := q1) (xs := xs1) (es := es1) (kvs := kvs1) (m := m1) a b c d1 e f, hv => by
    by_cases hk : k1 = k
    · rw [valV_pos hk] at hv
      cases hv
      refine ⟨q1, xs1, rfl, b, c, a, ⟨_, List.mem_cons_self .., rfl⟩, ⟨es1, by rw [hk]; exact List.mem_cons_self .., d1.length⟩, ?_⟩
      have ea : addL k d ((k1, es1) :: m1) = (k1, es1 ++ [d]) :: m1 := if_pos hk
      rw [ea]
      exact .cons a b upd_same (d1.append (.cons ry .nil)) e (f.else (q := q1) (fun x hx => upd_ne hx) e)
    · rw [valV_neg hk] at hv
      obtain ⟨q, xs, h1, h2, h3, h4, ⟨x, hx, ex⟩, ⟨es2, hm, hl⟩, h6⟩ := Lv.more ry f hv
      have ea : addL k d ((k1, es1) :: m1) = (k1, es1) :: addL k d m1 := if_neg hk
      have ne : q1 ≠ q := fun z => e x hx (by rw [ex, z])
      refine ⟨q, xs, h1, h2, h3, h4, ⟨x, List.mem_cons_of_mem _ hx, ex⟩, ⟨es2, List.mem_cons_of_mem _ hm, hl⟩, ?_⟩
      rw [ea]
      exact .cons a b (by rw [upd_ne ne]; exact c) d1 e h6
/-- a key that is new -/
theorem Lv.newk {k : Key} {y : V} {d : PyData} {q : Addr} (ry : Rp M H0 y d) (hq : H0 q = none) (qp : q ≠ p) : ∀ {kvs : List (Key × V)} {m : List (Key × List PyData)}, Lv H0 M p H kvs m → valV kvs k = none → (∀ x ∈ kvs, x.2 ≠ .ref q) →
    Lv H0 M p (upd H q (.lst [y])) (kvs ++ [(k, .ref q)]) (addL k d m)
  | _, _, .nil, _, _ => .cons hq qp upd_same (.cons ry .nil) (fun _ h => by cases h) .nil
  | _, _, .cons (k := k1) (q := q1) (es := es1) (kvs := kvs1) (m := m1) a b c d1 e f, hv, n => by
    have hk : ¬ k1 = k := fun z => by rw [valV_pos z] at hv; cases hv
    rw [valV_neg hk] at hv
    have ea : addL k d ((k1, es1) :: m1) = (k1, es1) :: addL k d m1 := if_neg hk
    have ne : q1 ≠ q := fun z => n _ (List.mem_cons_self ..) (by rw [z])
    rw [ea]
    refine .cons a b (by rw [upd_ne ne]; exact c) d1 (fun x hx => ?_) (Lv.newk ry hq qp f hv fun x hx => n x (List.mem_cons_of_mem _ hx))
    rcases List.mem_append.mp hx with z | z
    · exact e x z
    · rw [List.mem_singleton.mp z]
      intro z2
      injection z2 with z2
      exact ne z2.symm
/-- how the dict stands -/
structure Ld (H0 : Hp) (M : List Addr) (p : Addr) (m : List (Key × List PyData)) (H : Hp) : Prop where
  keep : ∀ a o, H0 a = some o → H a = some o
  new : H0 p = none
  dict : ∃ kvs, H p = some (.dK kvs) ∧ Lv H0 M p H kvs m
theorem Ld.back {m : List (Key × List PyData)} (h : Ld H0 M p m H) {q : Addr} (e : H q = none) : H0 q = none := by
  cases z : H0 q with
  | none => rfl
  | some o => rw [h.keep q o z] at e; cases e
theorem Lv.notp : ∀ {kvs : List (Key × V)} {m : List (Key × List PyData)}, Lv H0 M p H kvs m → ∀ x ∈ kvs, x.2 ≠ .ref p
  | _, _, .nil, x, hx => by cases hx
  | _, _, .cons a b c d e f, x, hx => by
    rcases List.mem_cons.mp hx with rfl | hx
    · intro z
      injection z with z
      exact b z
    · exact Lv.notp f x hx
theorem put_end {kvs : List (Key × V)} {k : Key} {z : V} (h : valV kvs k = none) : putK kvs k z = kvs ++ [(k, z)] := by
  unfold putK
  rw [valV_any, h]
  rfl
theorem Ld.step {K : PySem.W.Frag} {m : List (Key × List PyData)} {i j s : Nat} {σ : L2.St} {k : Key} {y : V} {d : PyData} {Q : VK} (h : Ld H0 M p m H) (hi : σ[i]? = some (some (.ref p))) (hj : σ[j]? = some (some (kV k))) (hs : σ[s]? = some (some y)) (ry : Rp M H0 y d)
    (hl : m.length < 10000) (he : ∀ e ∈ m, e.2.length < 10000) (q : ∀ H', Ld H0 M p (addL k d m) H' → Q .non H') : tBM K "list" rAppend (tDSetd (tVar i) (tVar j) (tLst tNil)) (tCons (tVar s) tNil) σ H Q := by
  obtain ⟨kvs, e1, lv⟩ := h.dict
  refine ⟨_, hi, p, rfl, .inl ⟨kvs, .inl e1⟩, _, hj, Nat.zero_le _, fun b hb => ?_⟩
  have bp : b ≠ p := fun z => by rw [z, e1] at hb; cases hb
  have b0 := h.back hb
  have ap := lv.apart hb
  refine ⟨kvs, k, by rw [upd_ne (Ne.symm bp)]; exact e1, rfl, by rw [lv.length]; exact Nat.lt_trans hl (by decide), fun v hv => ?_, fun hn => ?_⟩
  · obtain ⟨q1, xs, rfl, qp, e2, hq0, _, ⟨es, hm, hle⟩, lv'⟩ := lv.more ry hv
    have nq : q1 ≠ b := fun z => by rw [z, hb] at e2; cases e2
    have e3 : upd H b (.lst []) q1 = some (.lst xs) := by rw [upd_ne nq]; exact e2
    refine ⟨.inl ⟨rfl, xs, SqL.of e3⟩, _, hs, q1, xs, y, rfl, rfl, e3, by rw [hle]; exact Nat.lt_trans (he _ hm) (by decide), q _ ⟨fun a o ea => ?_, h.new, kvs, ?_, ?_⟩⟩
    · have a1 : a ≠ q1 := fun z => by rw [z, hq0] at ea; cases ea
      have a2 : a ≠ b := fun z => by rw [z, b0] at ea; cases ea
      rw [upd_ne a1, upd_ne a2]
      exact h.keep a o ea
    · rw [upd_ne (Ne.symm qp), upd_ne (Ne.symm bp)]
      exact e1
    · refine lv'.else (q := b) (fun a ha => ?_) ap
      by_cases z : a = q1
      · rw [z, upd_same, upd_same]
      · rw [upd_ne z, upd_ne ha, upd_ne z]
  · rw [put_end hn]
    have e3 : upd (upd H b (.lst [])) p (.dK (kvs ++ [(k, .ref b)])) b = some (.lst []) := by rw [upd_ne bp, upd_same]
    refine ⟨.inl ⟨rfl, [], SqL.of e3⟩, _, hs, b, [], y, rfl, rfl, e3, by decide, q _ ⟨fun a o ea => ?_, h.new, kvs ++ [(k, .ref b)], ?_, ?_⟩⟩
    · have a1 : a ≠ p := fun z => by rw [z, h.new] at ea; cases ea
      have a2 : a ≠ b := fun z => by rw [z, b0] at ea; cases ea
      rw [upd_ne a2, upd_ne a1, upd_ne a2]
      exact h.keep a o ea
    · rw [upd_ne (Ne.symm bp), upd_same]
    · have lv' := lv.newk (k := k) ry b0 bp hn ap
      refine lv'.else (q := p) (fun a ha => ?_) lv'.notp
      by_cases z : a = b
      · rw [z, upd_same, upd_same]
        rfl
      · rw [upd_ne z, upd_ne ha, upd_ne z, upd_ne z]
end
section
variable {K : PySem.W.Frag} {ds : List SD} {ms : List MD} {L M : List Addr} {H H' : Hp} {P : Po} {u : TS}
theorem At.stay (h : At L M ms H) (k : ∀ a o, H a = some o → H' a = some o) : At L M ms H' := by
  refine ⟨h.nd, h.sub, fun q hq => ?_, h.ln, fun j q m e1 e2 => ?_⟩
  · obtain ⟨o, e, n⟩ := h.al q hq
    exact ⟨o, k q o e, n⟩
  · obtain ⟨o, e, _⟩ := h.al q (h.sub q (List.mem_of_getElem? e1))
    exact (h.ok j q m e1 e2).to (h.wk (.of k)) (by rw [e, k q o e])
theorem Lv.data {p : Addr} {M' : List Addr} (fr : ∀ q, H q = none → q ≠ p → q ∉ M') (t : To M M' H H') : ∀ {kvs : List (Key × V)} {m : List (Key × List PyData)}, Lv H M p H' kvs m → RpK M' H' kvs (kD (m.map fun e => (e.1, .list e.2)))
  | _, _, .nil => .nil
  | _, _, .cons a b c d e f => .cons (.lst (fr _ a b) c (RpA.to t _ _ d)) (Lv.data fr t f)
/-- behind it only what is told goes on -/
def Po.only (P : Po) (n : Nat) : Po where
  nx := fun _ _ => False
  rt := fun s ms' => ∃ ms1 x, ms' = ms1 ++ [x] ∧ ms1.length = n ∧ (∃ y, s = .d y ∨ ∃ fs, s = .f fs) ∧ P.rt s ms1
  bk := fun _ _ => False
  ct := fun _ _ => False
end
end Hc

namespace Hc
open PySem PySem.Spec PyProof.Rows L2
/-! ### a comprehension over a dict's keys: the dict is locked from there on -/
section
variable {K : PySem.W.Frag} {tt : TT} {te : TE} {ds : List SD} {ms : List MD} {R : RS}
end
end Hc

namespace Hc
open PySem PySem.Spec PyProof.Rows L2
/-! ### a def that is never called -/
/-! ### list(reversed(xs)), xs a list -/
section
variable {prog : Program} {w : World} {A : Around} {E : Value → Shared → Prop} {s : Shared}
end
/-! ### len of a dict that may change -/
end Hc

namespace Hc
open PySem PySem.Spec PyProof.Rows L2
section
variable {K : PySem.W.Frag} {te ta : TE} {ds : List SD} {ms : List MD} {R : RS}
/-! ### xs.extend(e), e a new list; xs.remove(e) of ints -/
end
end Hc

namespace Hc
open PySem PySem.Spec PyProof.Rows L2
section
variable {X : Cx} {a b c d : Expr} {ta tb tc td : TE} {pos : Pos}
/-! ### a chain of three comparisons, as a test -/
end
section
variable {K : PySem.W.Frag} {ta tb tc td : TE} {ds : List SD} {ms : List MD} {R : RS}
variable {t : TS} {P : Po}
/-! ### for i in reversed(range(n)) -/
end
/-! ### t * k of a tuple that may be empty -/
section
variable {K : PySem.W.Frag} {ms : List MD} {R : RS}
end
end Hc

namespace Hc
open PySem PySem.Spec PyProof.Rows L2
/-! ### bool(i) of an int -/
section
variable {K : PySem.W.Frag} {ms : List MD} {R : RS}
end
end Hc

namespace Hc
open PySem PySem.Spec PyProof.Rows L2
/-! ### the law itself, called at the top: there the guards are known -/
section
variable {Pg : Program} {w : World} {K : PySem.W.Frag} {mg : Str → Option Value} {base : Heap}
end
/-! ### repr of rows of data, the guards known -/
section
variable {K : PySem.W.Frag} {ds : List SD} {ms : List MD} {R : RS}
end
/-! ### how long such a text is -/
mutual
def noText : PyData → Bool
  | .list xs | .tuple xs => noTexts xs
  | .str _ | .dict _ => false
  | _ => true
def noTexts : List PyData → Bool
  | [] => true
  | x :: r => noText x && noTexts r
end
mutual
def nodes : PyData → Nat
  | .list xs | .tuple xs => 2 + nodesAll xs
  | _ => 1
def nodesAll : List PyData → Nat
  | [] => 0
  | x :: r => nodes x + nodesAll r
end
theorem textFrom_le : ∀ (ts : List Str) (k : Nat) (acc : Str), (textFrom k acc ts).length ≤ acc.length + (ts.map fun t => t.length + 2).sum
  | [], _, acc => Nat.le_add_right _ _
  | t :: r, k, acc => by
    have ih := textFrom_le r (k + 1) (acc ++ (if k > 0 then ", " else "" : String) ++ t)
    have e : (acc ++ (if k > 0 then ", " else "" : String) ++ t).length ≤ acc.length + 2 + t.length := by
      rw [strLen_append, strLen_append]
      have : (((if k > 0 then ", " else "" : String) : Str)).length ≤ 2 := by split <;> decide
      omega
    rw [List.map_cons, List.sum_cons]
    show (textFrom (k + 1) _ r).length ≤ _
    omega
theorem join_le : ∀ ts : List Str, (Str.join ", " ts).length ≤ (ts.map fun t => t.length + 2).sum
  | [] => Nat.zero_le _
  | t :: r => by
    have e := join_length_add (t :: r) (by simp)
    have p : ∀ l : List Str, piled l = (l.map fun t => t.length + 2).sum := fun l => by
      induction l with
      | nil => rfl
      | cons a b ih => rw [piled_cons, List.map_cons, List.sum_cons, ih]
    rw [p] at e
    omega
mutual
theorem shown_le : ∀ d : PyData, d.showable = true → noText d = true → d.shown.length + 2 ≤ 1923 * nodes d
  | .none, _, _ => by decide
  | .bool b, _, _ => by cases b <;> decide
  | .int i, h, _ => by
    have h : i.natAbs.log2 < 1920 := by simpa [PyData.showable] using h
    have := int_text_len_1921 h
    show (PySem.Str.ofString (toString i)).length + 2 ≤ 1923 * 1
    omega
  | .str _, _, h => by cases h
  | .list xs, h, n => by
    have := showns_le xs (by simpa [PyData.showable] using h) n
    have e := textFrom_le (PyData.shownAll xs) 0 "["
    have e2 : (PyData.list xs).shown = textFrom 0 "[" (PyData.shownAll xs) ++ "]" := by simp [PyData.shown, listText]
    have e3 : nodes (.list xs) = 2 + nodesAll xs := rfl
    rw [e2, e3, strLen_append]
    have : (("[" : String) : Str).length = 1 := rfl
    have : (("]" : String) : Str).length = 1 := rfl
    omega
  | .tuple xs, h, n => by
    have := showns_le xs (by simpa [PyData.showable] using h) n
    have e := join_le (PyData.shownAll xs)
    have e2 : (PyData.tuple xs).shown = ("(" : Str) ++ Str.join ", " (PyData.shownAll xs) ++ (if (PyData.shownAll xs).length == 1 then ",)" else ")" : String) := by simp [PyData.shown, tupleText]
    have e3 : nodes (.tuple xs) = 2 + nodesAll xs := rfl
    rw [e2, e3, strLen_append, strLen_append]
    have : (("(" : String) : Str).length = 1 := rfl
    have : (((if (PyData.shownAll xs).length == 1 then ",)" else ")" : String) : Str)).length ≤ 2 := by split <;> decide
    omega
  | .dict _, _, h => by cases h
theorem showns_le : ∀ ds : List PyData, PyData.showableAll ds = true → noTexts ds = true → ((PyData.shownAll ds).map fun t => t.length + 2).sum ≤ 1923 * nodesAll ds
  | [], _, _ => Nat.le_refl _
  | d :: r, h, n => by
    have h : d.showable = true ∧ PyData.showableAll r = true := by simpa [PyData.showableAll] using h
    have n : noText d = true ∧ noTexts r = true := by simpa [noTexts] using n
    have a := shown_le d h.1 n.1
    have b := showns_le r h.2 n.2
    have e : ((PyData.shownAll (d :: r)).map fun t => t.length + 2).sum = (d.shown.length + 2) + ((PyData.shownAll r).map fun t => t.length + 2).sum := by
      rw [show PyData.shownAll (d :: r) = d.shown :: PyData.shownAll r from rfl, List.map_cons, List.sum_cons]
    have e2 : nodesAll (d :: r) = nodes d + nodesAll r := rfl
    rw [e, e2]
    omega
end
end Hc

namespace Hc
open PySem PySem.Spec PyProof.Rows L2
section
variable {K : PySem.W.Frag} {te ta tb tc tl : TE} {tt : TT} {tA : TA} {ds : List SD} {ms : List MD} {R : RS}
end
end Hc

namespace Hc
open PySem PySem.Spec PyProof.Rows L2
/-! ### try, where the first clause takes whatever the body raises: what stands behind it is not reached -/
section
variable {X : Cx} {x n : Str} {c : Value} {i : Nat} {body suite : List Stmt} {b1 : Stmt} {np pos pos2 : Pos} {rest : List ExceptHandler} {tb : WX → TS} {ts : Addr → Value → Option Addr → TS}
/-- what the clause is asked, once the body has raised -/
def toClause (X : Cx) (pins : List (Addr × Obj)) (D : Ends) (cl : List ExceptHandler) : Value → Shared → Prop := fun e s1 =>
  wpAny (model X.prog X.w) X.A (noteFrame e X.env) (fun _ s2 => wpAny (model X.prog X.w) X.A (setFlight e none)
    (fun _ s3 => wpAny (model X.prog X.w) X.A (handleBy e X.env cl) (SP X pins D) X.xe s3) X.xe s2) X.xe s1
/-- no frame's own object is an error -/
theorem not_frame {h B : Heap} {fs : List Env} {a : Addr} {o : Obj} {vs : Array Value} (ff : h.FunFrames B fs) (e : h.get? a = some o) (d : o.data = .fields vs) : a ∉ frs fs := fun m => by
  obtain ⟨_, u, eu, no⟩ := ff.mem m
  cases e.symm.trans eu
  exact no vs d
end
end Hc

namespace Hc
open PySem PySem.Spec PyProof.Rows L2
/-! ### sorted(set(xs)), xs a list of ints -/
/-- a set without members, as set() lays it -/
abbrev bareSet (w : World) : Obj := { cls := .type "set", dict := none, data := .set #[] 0 (.fresh 0 0 (!w.params.followText "set-order")) }
section
variable {P : Program} {w : World} {A : Around} {E : Value → Shared → Prop} {s : Shared} {l : Addr} {its : Array Value} {ns : List Int}
theorem ints_at (hi : IntsAre its.toList ns) {i : Nat} {v : Value} (e : its[i]? = some v) : ∃ k t, ns[i]? = some k ∧ v = .int k t := by
  have ln : its.size = ns.length := by
    have := IntsAre.length hi
    rwa [Array.length_toList] at this
  have li : i < ns.length := ln ▸ (Array.getElem?_eq_some_iff.mp e).1
  obtain ⟨t, q⟩ := PyProof.Rows.IntsAre.int_at hi i v (by rw [Array.getElem?_toList]; exact e)
  exact ⟨ns[i], t, List.getElem?_eq_getElem li, by rw [q, List.getD_eq_getElem?_getD, List.getElem?_eq_getElem li]; rfl⟩
/-- what set.__init__ leaves of a bare set at p -/
def Filled (w : World) (s : Shared) (ns : List Int) (p : Addr) (t : Shared) : Prop := ∃ (h : Heap) (tk c : Nat), t = { s with heap := h, toks := tk } ∧ SetR w h p (fun j => decide (j ∈ ns)) c ∧ c ≤ ns.length ∧ ∀ b o, s.heap.get? b = some o → h.get? b = some o
theorem set_init (hh : A.handled = none) (hl : s.heap.IsList l its) (hi : IntsAre its.toList ns) (hb : ns.length + 1 < scanBound) :
    codeAny (model P w) A (.call (.builtin "set.__init__") ⟨[.ref s.heap.objs.size, .ref l], []⟩) (wants (fun r t => r = .none ∧ Filled w s ns s.heap.objs.size t) E) { s with heap := s.heap.push (bareSet w) } := by
  obtain ⟨ob, at_l, cls, ep, dat⟩ := hl
  obtain ⟨c1, c2, c3, c4⟩ := ob
  cases cls
  cases dat
  have born : (s.heap.push (bareSet w)).get? s.heap.objs.size = some (bareSet w) := Heap.get?_push_size _ rfl
  have ty : Shared.TypeIs { s with heap := s.heap.push (bareSet w) } (.ref s.heap.objs.size) "set" := ⟨_, born, rfl⟩
  refine codeAny_call_builtin F.called_set.init.plain F.entry_set_init (check_set_init_1 ty ?_)
  have low : l < s.heap.objs.size := Heap.lt_size at_l
  have at_l2 : (s.heap.push (bareSet w)).get? l = _ := Heap.get?_push_of_some _ at_l
  have lst : (s.heap.push (bareSet w)).IsList l its := ⟨_, at_l2, rfl, ep, rfl⟩
  have n1 := F.sub_list_set
  have n2 := F.sub_list_frozenset
  have n3 : (Value.type "list" == Value.type "dict") = false := by decide
  have ln : its.size = ns.length := by
    have := IntsAre.length hi
    rwa [Array.length_toList] at this
  have sz : (s.heap.push (bareSet w)).objs.size = s.heap.objs.size + 1 := Heap.size_push ..
  unfold Builtin.«set.__init__» noKeywords Builtin.Frozenset.updateFrom
  generalize later : pyIter = walk
  wp_walk
  subst later
  refine wpAny_pyIter_list lst (wpAny_bind (wpAny_runValue ?_))
  have walks := (Walks.list (prog := P) (w := w) (show A.in1.in1.handled = none by simp [hh]) (s.heap.push (bareSet w)).objs.size l (fun z => Nat.ne_of_lt (Nat.lt_succ_of_lt low) (z.trans sz)) its).toS
  have apart : s.heap.objs.size ∉ [(s.heap.push (bareSet w)).objs.size, l] := fun m => by
    rcases List.mem_cons.mp m with z | z
    · exact Nat.ne_of_lt (Nat.lt_succ_self _) (z.trans sz)
    · exact Nat.ne_of_gt low (List.mem_singleton.mp z)
  refine set_update_ints walks s.heap.objs.size apart ns ln hb (fun i v e => ints_at hi e) (its.size - 0) 0 _ (by omega) (Nat.zero_le _)
    ?_ ?_ ?_
  · exact ⟨⟨_, Heap.get?_push_size _ rfl, rfl, rfl⟩, lst.push _⟩
  · exact ⟨0, Nat.le_refl 0, setR_new_at (Heap.get?_push_of_some _ born)⟩
  rintro ⟨h2, g2, d2, k2, o2⟩ c moved few filled
  cases show g2 = s.gens from moved.gens
  cases show d2 = s.drawn from moved.drawn
  cases show o2 = s.os from moved.os
  show wpAny _ _ _ _ _ _
  apply wpAny_pure
  show wpAny _ _ (ret Value.none) _ _ _
  refine wpAny_pure ⟨rfl, h2, k2, c, rfl, filled, ln ▸ few, fun b o e => ?_⟩
  have lb := Heap.lt_size e
  refine moved.heap b o (fun m => ?_) (Heap.get?_push_of_some _ (Heap.get?_push_of_some _ e))
  rcases List.mem_cons.mp m with z | z
  · exact Nat.ne_of_lt lb z
  · exact Nat.ne_of_lt (Nat.lt_succ_of_lt lb) ((List.mem_singleton.mp z).trans sz)
theorem set_list {Q : Value → Shared → Prop} (hh : A.handled = none) (hl : s.heap.IsList l its) (hi : IntsAre its.toList ns) (hb : ns.length + 1 < scanBound)
    (go : ∀ t, Filled w s ns s.heap.objs.size t → Q (.ref s.heap.objs.size) t) : wpAny (model P w) A (call (.type "set") [.ref l]) Q E s := by
  have C := F.called_set
  obtain ⟨_, _, mro⟩ := C.mro
  have a1 := C.made
  have a2 := C.sub
  have a3 := C.notType
  have a4 := C.canCreate
  have a5 := F.typeCall_set_1 (.ref l)
  apply wpAny_call
  apply codeAny_of_tree
  show wpAny _ _ (callAny (.type "set") _) _ _ _
  refine wpAny_pure ⟨Code.quiet_builtin _ (by decide +kernel), codeAny_builtin F.entry_type_call ?_⟩
  rw [Around.under_plain (weight_type_call_type "set" [.ref l] []) rfl]
  repeat (any_goals (first | assumption | wp_step))
  refine codeAny_mono (code_set_led1 (E := E) (.ref l) (Q₁ := fun p t => p = .ref s.heap.objs.size ∧ t = { s with heap := s.heap.push (bareSet w) }) ⟨rfl, rfl⟩) fun r t z => ?_
  match r, z with
  | .error _, z => exact z
  | .ok .next, z => exact z.elim
  | .ok .brk, z => exact z.elim
  | .ok .cont, z => exact z.elim
  | .ok (.ret p), ⟨ep, et⟩ =>
    subst ep et
    have ty : Shared.TypeIs { s with heap := s.heap.push (bareSet w) } (.ref s.heap.objs.size) "set" := ⟨_, Heap.get?_push_size _ rfl, rfl⟩
    have b1 := C.init.lookup
    have b2 := C.init.bind (.ref s.heap.objs.size)
    repeat (any_goals (first | assumption | wp_step))
    refine codeAny_mono (set_init (E := E) hh hl hi hb) fun r2 t2 z2 => ?_
    match r2, z2 with
    | .error _, z2 => exact z2
    | .ok .next, z2 => exact z2.elim
    | .ok .brk, z2 => exact z2.elim
    | .ok .cont, z2 => exact z2.elim
    | .ok (.ret v), ⟨ev, fl⟩ =>
      subst ev
      have := go t2 fl
      repeat (any_goals (first | assumption | wp_step))
end
section
variable {K : PySem.W.Frag} {te ta tb tc tl : TE} {tt : TT} {tA : TA} {ds : List SD} {ms : List MD} {R : RS}
end
end Hc

namespace Hc
open PySem PySem.Spec PyProof.Rows L2
/-! ### tuple(reversed(t)), t a tuple -/
section
variable {prog : Program} {w : World} {A : Around} {E : Value → Shared → Prop} {s : Shared}
end
end Hc

namespace Hc
open PySem PySem.Spec PyProof.Rows L2
/-! ### try: x = f(..), the first clause `except X as n` takes all -/
section
variable {K : PySem.W.Frag} {C : Addr} {tA : TA} {ds : List SD} {ms : List MD} {P : Po}
end
end Hc

namespace Hc
open PySem PySem.Spec PyProof.Rows L2
/-! ### data read off the heap, dicts too -/
section
variable {X : Cx} {pins : List (Addr × Obj)} {σ : L2.St} {H : Hp} {s : Shared} {M : List Addr}
theorem key_off {h : Heap} {k : Key} {e : Value} (z : keyIs k e = true) : Reads h e (keyD k) [] := by
  rcases keyIs_shape z with ⟨i, t, rfl, rfl⟩ | ⟨x, t, rfl, rfl⟩
  · exact .int i t
  · exact .str x t
mutual
theorem Rp.off (I : Inv X pins σ H s) (out : H sysModules = none) : ∀ {v : V} {d : PyData}, Rp M H v d → ∀ u, RelV v u → ∃ as, Reads s.heap u d as ∧ sysModules ∉ as
  | _, _, .non, u, r => by
    cases r
    exact ⟨[], .none, nofun⟩
  | _, _, .bl b, u, r => by
    cases r
    exact ⟨[], .bool b, nofun⟩
  | _, _, .int i, u, r => by
    obtain ⟨t, rfl⟩ := r
    exact ⟨[], .int i t, nofun⟩
  | _, _, .str x, u, r => by
    obtain ⟨t, rfl⟩ := r
    exact ⟨[], .str x t, nofun⟩
  | _, _, .lst (a := a) na e rs, u, r => by
    cases r
    obtain ⟨z, its, n, rv, g⟩ := I.hok a _ e
    obtain ⟨as, q, no⟩ := RpA.off I out rs its rv
    refine ⟨a :: as, .list (vs := its.toArray) g rfl rfl (by rw [List.toList_toArray]; exact q), fun m => ?_⟩
    rcases List.mem_cons.mp m with w | w
    · rw [w, e] at out
      cases out
    · exact no w
  | _, _, .tup (a := a) na e rs, u, r => by
    cases r
    obtain ⟨z, its, rv, o, g, c, n, d⟩ := I.hok a _ e
    obtain ⟨as, q, no⟩ := RpA.off I out rs its rv
    exact ⟨as, .tuple (vs := its.toArray) g c d (by rw [List.toList_toArray]; exact q), no⟩
  | _, _, .dct (a := a) na e rs, u, r => by
    cases r
    obtain ⟨z, ns, vs, kv, o, es, ep, g, ex, dd, ko, ps, nd⟩ := I.hok a _ e
    obtain ⟨bs, q1, q2, no⟩ := RpK.off I out rs vs kv es.toList ps
    refine ⟨a :: [] ++ bs, .dict g ex.1 dd q1 q2, fun m => ?_⟩
    rcases List.mem_cons.mp m with w | w
    · rw [w] at ns
      simp at ns
    · exact no w
theorem RpA.off (I : Inv X pins σ H s) (out : H sysModules = none) : ∀ {vs : List V} {ds : List PyData}, RpA M H vs ds → ∀ us, Vals vs us → ∃ as, ReadsAll s.heap us ds as ∧ sysModules ∉ as
  | _, _, .nil, us, r => by
    cases r
    exact ⟨[], .nil, nofun⟩
  | _, _, .cons h t, us, r => by
    cases r with
    | cons r1 r2 =>
      obtain ⟨as, q1, n1⟩ := Rp.off I out h _ r1
      obtain ⟨bs, q2, n2⟩ := RpA.off I out t _ r2
      exact ⟨as ++ bs, .cons q1 q2, fun m => (List.mem_append.mp m).elim n1 n2⟩
theorem RpK.off (I : Inv X pins σ H s) (out : H sysModules = none) : ∀ {kvs : List (Key × V)} {ds : List (PyData × PyData)}, RpK M H kvs ds → ∀ vs, KV kvs vs → ∀ es, Pairs (mixKind X.prog X.w) es vs →
    ∃ bs, ReadsAll s.heap (es.map (·.key)) (ds.map (·.1)) [] ∧ ReadsAll s.heap (es.map (·.val)) (ds.map (·.2)) bs ∧ sysModules ∉ bs
  | _, _, .nil, vs, kv, es, ps => by
    cases kv
    cases ps
    exact ⟨[], .nil, .nil, nofun⟩
  | _, _, .cons h t, vs, kv, es, ps => by
    cases kv with
    | cons r1 r2 =>
      cases ps with
      | cons p1 p2 p3 =>
        obtain ⟨e1, rv⟩ := r1
        obtain ⟨as, q1, n1⟩ := Rp.off I out h _ rv
        obtain ⟨bs, k2, q2, n2⟩ := RpK.off I out t _ r2 _ p3
        refine ⟨as ++ bs, ?_, .cons (by dsimp only; rw [p2]; exact q1) q2, fun m => (List.mem_append.mp m).elim n1 n2⟩
        refine ReadsAll.cons (as := []) (bs := []) ?_ k2
        rw [← e1] at p1
        exact key_off p1
end
end
/-! ### repr of any datum, where the guards are known and the table of modules stands in the base -/
end Hc

namespace Hc
open PySem PySem.Spec PyProof.Rows L2
section
variable {K : PySem.W.Frag} {ds : List SD} {ms : List MD} {R : RS} {P : Po}
end
/-! ### min(t) of a row of ints, a list or a tuple -/
end Hc

namespace Hc
open PySem PySem.Spec PyProof.Rows L2
/-! ### an error that is kept beyond its suite -/
/-- an error of the class at C, no more in the air, at a -/
def erO (C a : Addr) : HO := .ext fun h => ∃ (err : Obj) (vs : Array Value), h.get? a = some err ∧ Zc (.ref C) none err ∧ err.data = .fields vs
theorem erO_ok {P : Program} {w : World} {H : Hp} {h : Heap} {a C : Addr} {err : Obj} (g : h.get? a = some err) (z : Zc (.ref C) none err) (f : ∃ vs, err.data = .fields vs) : ObjOk P w H h a (erO C a) := by
  obtain ⟨vs, d⟩ := f
  refine ⟨⟨err, vs, g, z, d⟩, ⟨err, g⟩, ?_⟩
  rintro h1 h2 ⟨u, us, g1, z1, d1⟩ same
  exact ⟨u, us, same u g1, z1, d1⟩
section
variable {X : Cx} {pins : List (Addr × Obj)} {σ : L2.St} {H : Hp} {s : Shared}
/-- what is there, and new since the def began, may be told of -/
theorem inv_tell {a : Addr} {u : HO} (I : Inv X pins σ H s) (na : H a = none) (n0 : X.s_0.heap.get? a = none) (nl : a ≠ X.env.locals) (nc : ∀ x c, X.env.cells.lookup x = some c → c ≠ a) (np : ∀ p ∈ X.pn ++ pins, p.1 ≠ a) (ok : ObjOk X.prog X.w (upd H a u) s.heap a u) : Inv X pins σ (upd H a u) s := by
  have old : ∀ b o, H b = some o → b ≠ a := fun b o e => ne_of_none e na
  constructor
  · exact I.ok
  · exact I.os
  · exact I.bare
  · constructor
    · exact I.base.keep
    · exact I.base.slot
    · intro b o e n x
      have : b ≠ a := fun z => by rw [z, n0] at e; cases e
      rw [upd_ne this]
      exact I.base.free b o e n x
    · exact I.base.there
    · intro b xs e
      have q := I.base.tups b xs e
      rw [upd_ne (old b _ q)]
      exact q
    · intro b o v e
      have q := I.base.frzs b o v e
      rw [upd_ne (old b _ q)]
      exact q
    · intro b ps e
      obtain ⟨more, q⟩ := I.base.tbls b ps e
      exact ⟨more, by rw [upd_ne (old b _ q)]; exact q⟩
  · exact I.loc
  · exact I.cell
  · rw [upd_ne (Ne.symm nl)]
    exact I.free
  · intro x c e
    rw [upd_ne (nc x c e)]
    exact I.freeC x c e
  · intro p hp
    obtain ⟨q1, q2, q3⟩ := I.pin p hp
    exact ⟨q1, by rw [upd_ne (np p hp)]; exact q2, q3⟩
  · exact HOk.laidN I.hok (fun _ _ q => q) na ok
  · exact I.len
end
section
variable {X : Cx} {x n : Str} {c : Value} {i : Nat} {C : Addr} {body suite : List Stmt} {b1 : Stmt} {np pos pos2 : Pos} {tb : WX → TS} {ts : Addr → TS}
end
section
variable {K : PySem.W.Frag} {C D : Addr} {tA : TA} {ds : List SD} {ms : List MD} {P : Po} {R : RS}
/-- isinstance(x, c), x an error that is kept -/
def rIsH (K : PySem.W.Frag) : List V → Hp → VK → Prop := fun xs H Q => ∃ (a C : Addr) (c : V) (cv : Value) (b : Bool), xs = [.ref a, c] ∧ ExcC K C ∧ H a = some (erO C a) ∧ (∀ u, RelV c u → u = cv) ∧ PySem.W.kitOne K (.ref C) cv = some b ∧ Q (.bl b) H
theorem call_isH {X : Cx} : CallR X (.builtin "isinstance") (rIsH X.K) := by
  rintro pins s σ H xs us Q I r ⟨a, C, c, cv, b, rfl, x, ha, one, e, q⟩
  obtain ⟨rx, rr⟩ : RelV (.ref a) us.head! ∧ ∃ u2, us = [.ref a, u2] ∧ RelV c u2 := by
    cases r with
    | cons rx rr =>
      cases rr with
      | cons rt rr =>
        cases rr
        cases rx
        exact ⟨rfl, _, rfl, rt⟩
  obtain ⟨u2, rfl, rt⟩ := rr
  have := one _ rt
  subst this
  obtain ⟨⟨err, vs, g, z, d⟩, _⟩ := I.hok a _ ha
  have at_ : PySem.W.InstAt s.heap a err C none := by
    rcases err with ⟨k1, k2, k3, k4⟩
    rcases z with ⟨z1, z2⟩
    have z1 : k1 = .ref C := z1
    have z2 : k2 = none := z2
    have d : k3 = .fields vs := d
    rw [z1, z2, d] at g ⊢
    exact ⟨g, rfl, rfl, trivial⟩
  have kit := PySem.W.handS_kitx_exc (x := a) (ox := err) x.hg x.hk x.hs x.hd x.ha x.hn x.ht x.hm
  exact PySem.W.kia_one kit I.kIn at_ e nofun fun tk => ⟨.bl b, H, I.kept (t' := tk) fun _ _ z => z, rfl, q⟩
theorem e_isH {i : Nat} {c : V} {cv : Value} {b : Bool} (x : ExcC K C) (hi : ds[i]? = some (.h (erO C))) (hc : ∀ u, RelV c u → u = cv) (hb : PySem.W.kitOne K (.ref C) cv = some b) (r : R (.d (.bool b)) ms) : E K (tCB (rIsH K) (tCons (tVar i) (tCons (tC c) tNil))) ds ms R := fun L M σ H hS hA Q q => by
  obtain ⟨v, e, a, rfl, n, ha⟩ := hS.get hi (fun z => nomatch z)
  exact ⟨.ref a, e, a, C, c, cv, b, rfl, x, ha, hc, hb, q (.d (.bool b)) _ H ms (Wk.refl L H) ⟨hA, .bl b⟩ r⟩
end
end Hc

namespace Hc
open PySem PySem.Spec PyProof.Rows L2
/-! ### errors of several classes -/
abbrev PhY := List SD → List MD → RS → (Addr → List MD → Prop) → Prop
/-- a def that hands back, or raises one of some classes -/
def SpY (K : PySem.W.Frag) (Φ : PhY) : Sp := fun vs H Q X => ∃ L M ms as R Y, At L M ms H ∧ SlsOk K L M H as vs ∧ Φ as ms R Y ∧ (∀ s v H' ms', Wk L H H' → Out K L M H H' ms' v s → R s ms' → Q v H') ∧ ∀ C H' ms', Wk L H H' → At L M ms' H' → Y C ms' → X (.ref C) none H'
def EyX (L M : List Addr) (H : Hp) (Y : Addr → List MD → Prop) (X : XK) : Prop := ∀ C H' ms', Wk L H H' → At L M ms' H' → Y C ms' → X (.ref C) none H'
def SY (K : PySem.W.Frag) (t : XK → TS) (ds : List SD) (ms : List MD) (P : Po) (Y : Addr → List MD → Prop) : Prop :=
  ∀ (L M : List Addr) (σ : L2.St) (H : Hp), Sl K L M σ H ds → At L M ms H → ∀ (D : Ends) (X : XK), Nx K L M H P.nx D.nx → Rx K L M H P.rt D.rt → Nx K L M H P.bk D.bk → Nx K L M H P.ct D.ct → EyX L M H Y X → t X D σ H
section
variable {K : PySem.W.Frag} {C : Addr} {te ta tb tc tl : TE} {tt : TT} {tA : TA} {ds : List SD} {ms : List MD} {R : RS} {P : Po} {Y : Addr → List MD → Prop}
theorem EyX.on {L M : List Addr} {H H1 : Hp} {X : XK} (w : Wk L H H1) (h : EyX L M H Y X) : EyX L M H1 Y X := fun C H' ms' w2 => h C H' ms' (w.trans w2)
theorem sy_of {t : TS} (h : S K t ds ms P) : SY K (fun _ => t) ds ms P Y := fun L M σ H hS hA D X n r b c _ => h L M σ H hS hA D n r b c
theorem sy_sx {t : XK → TS} (h : SX K C t ds ms P (Y C)) : SY K t ds ms P Y := fun L M σ H hS hA D X n r b c x => h L M σ H hS hA D X n r b c (x C)
theorem sy_seq {t u : XK → TS} (h : SY K t ds ms { P with nx := fun ds1 ms1 => SY K u ds1 ms1 P Y } Y) : SY K (fun X => tSeq (t X) (u X)) ds ms P Y := fun L M σ H hS hA D X n r b c x =>
  h L M σ H hS hA { D with nx := u X D } X (fun σ1 H1 ds1 ms1 w s1 a1 h1 => h1 L M σ1 H1 s1 a1 D X (n.on w) (r.on a1 w) (b.on w) (c.on w) (x.on w)) r b c x
theorem sy_if {t u : XK → TS} (h : ET K tt ds ms fun b ms1 => (b = true → SY K t ds ms1 P Y) ∧ (b = false → SY K u ds ms1 P Y)) : SY K (fun X => tIfS tt (t X) (u X)) ds ms P Y := fun L M σ H hS hA D X n r b c x =>
  h L M σ H hS hA _ fun k H1 ms1 w a ⟨h1, h2⟩ => by
    cases k with
    | true => exact h1 rfl L M σ H1 (hS.mono hA w) a D X (n.on w) (r.on a w) (b.on w) (c.on w) (x.on w)
    | false => exact h2 rfl L M σ H1 (hS.mono hA w) a D X (n.on w) (r.on a w) (b.on w) (c.on w) (x.on w)
theorem sy_raise (h : Y C ms) : SY K (tRs C) ds ms P Y := sy_sx (sx_raise h)
/-- such a def by name -/
structure KnY (Pg : Program) (w : World) (K : PySem.W.Frag) (mg : Str → Option Value) (base : Heap) (x : Str) (lv : Nat) (ps : List Str) (Φ : PhY) : Prop where
  ex : ∃ f fd, FnOk Pg w K mg base (L2.CX Pg w) lv f fd ps (SpY K Φ) ∧ mg x = some (.ref f) ∧ PySem.W.keepIn K (.ref f) = true ∧ Binds K fd ps []
theorem pe_callY {X : Cx} {x : Str} {lv : Nat} {ps : List Str} {Φ : PhY} {W : WX} {e : Expr} {es : List Expr} {t : TA} {p pos : Pos} (h : KnY X.prog X.w X.K X.mg X.base x lv ps Φ) (hr : Room lv X.A) (hg : Gl X x) (tk : Takes X W) (ha : PA X (e :: es) t)
    (hdb : (x == ("__debug__" : Str)) = false := by decide) (he : starEach (e :: es) X.env = (false, eval e X.env) :: starEach es X.env := by rfl) (hpl : (backTo pos (starEach es X.env)).any (·.1) = false := by rfl) :
    PE X (.Call (.Name x p) (e :: es) [] pos) (tCallS (SpY X.K Φ) (WE W) t) := by
  obtain ⟨f, fd, G, m, k, b⟩ := h.ex
  exact pe_callS G hr hg m k b (fun σ => passAt tk σ) ha hdb he hpl
theorem pe_callY0 {X : Cx} {x : Str} {lv : Nat} {ps : List Str} {Φ : PhY} {e : Expr} {es : List Expr} {t : TA} {p pos : Pos} (h : KnY X.prog X.w X.K X.mg X.base x lv ps Φ) (hr : Room lv X.A) (hg : Gl X x) (ha : PA X (e :: es) t)
    (hdb : (x == ("__debug__" : Str)) = false := by decide) (he : starEach (e :: es) X.env = (false, eval e X.env) :: starEach es X.env := by rfl) (hpl : (backTo pos (starEach es X.env)).any (·.1) = false := by rfl) :
    PE X (.Call (.Name x p) (e :: es) [] pos) (tCall (SpY X.K Φ) [] E0 t) := by
  obtain ⟨f, fd, G, m, k, b⟩ := h.ex
  exact pe_call G hr hg m k b .nil passL ha hdb he hpl
theorem e_callY0 {Φ : PhY} (h : EA K tA ds ms fun as ms1 => Φ as ms1 R fun _ _ => False) : E K (tCall (SpY K Φ) [] E0 tA) ds ms R := fun L M σ H hS hA Q q =>
  h L M σ H hS hA _ fun as vs H1 ms1 w1 a1 o1 h1 => by
    rw [List.append_nil]
    exact ⟨L, M, ms1, as, R, fun _ _ => False, a1, o1, h1, fun s v H3 ms3 w3 o3 r3 => q s v H3 ms3 (w1.trans w3) (o3.back a1 w1) r3, fun _ _ _ _ _ z => z.elim⟩
theorem okY_of {Pg : Program} {w : World} {mg : Str → Option Value} {base : Heap} {x qual : Str} {st : Stmt} {f : Addr} {fd : FuncData} {N ps : List Str} {k : Nat} {Φ : PhY} (F : Fun K x qual st f fd) (Sc : FnScope N ps (defScope st)) (hl : ∀ as ms R Y, Φ as ms R Y → as.length = ps.length) (hpn : ps.length ≤ N.length)
    (t : XK → TS) (hbody : ∀ (cdv : Value) (A : Around) (outer : List Env) (s : Shared) (H : Hp) (E : XK), Room k (A.deeper (envOfC qual (defScope st) s.heap.objs.size f cdv)) → PSs (cxOf (L2.CX Pg w) Pg w K mg base N qual (defScope st) f cdv A outer s H E) (defBody st) (t E))
    (h2 : ∀ as ms R Y, Φ as ms R Y → SY K t (as ++ List.replicate (N.length - as.length) .u) ms (fin R) Y) : FnOk Pg w K mg base (L2.CX Pg w) (k + 1) f fd ps (SpY K Φ) := by
  refine F.okX Sc (fun vs H Q E h => ?_) (fun cdv A outer s H vs Q E hr h => ⟨t E, hbody cdv A outer s H E hr, ?_⟩)
  · obtain ⟨L, M, ms, as, R, Y, hA, ho, hp, q⟩ := h
    rw [← ho.len]
    exact hl as ms R Y hp
  · obtain ⟨L, M, ms, as, R, Y, hA, ho, hp, q, x⟩ := h
    exact h2 as ms R Y hp L M _ H (Sl.start ho (by rw [hl as ms R Y hp]; exact hpn)) hA _ E (fun σ' H' ds' ms' w s a r => q (.d .none) .non H' ms' w ⟨a, .non⟩ r) (fun s v H' ms' w o r => q s v H' ms' w o r) (fun _ _ _ _ _ _ _ z => z.elim) (fun _ _ _ _ _ _ _ z => z.elim) x
end
def phy2 (f : SD → SD → List MD → RS → (Addr → List MD → Prop) → Prop) : PhY := fun as ms R Y => ∃ a b, as = [a, b] ∧ f a b ms R Y
def phy3 (f : SD → SD → SD → List MD → RS → (Addr → List MD → Prop) → Prop) : PhY := fun as ms R Y => ∃ a b c, as = [a, b, c] ∧ f a b c ms R Y
theorem phy2_len {f : SD → SD → List MD → RS → (Addr → List MD → Prop) → Prop} : ∀ as ms R Y, phy2 f as ms R Y → as.length = 2 := fun _ _ _ _ ⟨_, _, e, _⟩ => by rw [e]; rfl
theorem phy3_len {f : SD → SD → SD → List MD → RS → (Addr → List MD → Prop) → Prop} : ∀ as ms R Y, phy3 f as ms R Y → as.length = 3 := fun _ _ _ _ ⟨_, _, _, e, _⟩ => by rw [e]; rfl
/-! ### an error of whichever class that is kept, or handed back -/
section
variable {X : Cx} {x n : Str} {c : Value} {i : Nat} {body suite : List Stmt} {b1 : Stmt} {np pos pos2 : Pos} {tb : WX → TS} {ts : Addr → TS}
def wKeep (K : PySem.W.Frag) (c : Value) (i : Nat) (ts : Addr → TS) (D : Ends) : WX := fun cls d σ H =>
  ∃ C, cls = .ref C ∧ d = none ∧ PySem.W.exmOne K cls c = some true ∧ ∀ a, H a = none → ts a { nx := fun σ' H' => D.nx (σ'.set i none) (upd H' a (erO C a)), rt := fun v H' => D.rt v (upd H' a (erO C a)), bk := fun _ _ => False, ct := fun _ _ => False } (σ.set i (some (.ref a))) H
theorem clause_keeps (own : X.stack = X.env :: X.outer) (fr : X.env.frame = some X.env.locals) (ex0 : X.ex = []) (nd : X.N.Nodup) (hi : X.N[i]? = some n) (lc : X.env.kindOf n = some .local) (hc : Names X x c)
    (hsu : ∀ (a : Addr) (err : Obj) (ps : List (Addr × Obj)), PSs (X.suite a ((a, err) :: ps)) (b1 :: suite) (ts a))
    (ok : X.Ok) (pins : List (Addr × Obj)) (D : Ends) : Takes (X.tr (X.pn ++ pins) (toClause X pins D [.ExceptHandler (some (.Name x np)) (some n) (b1 :: suite) pos2])) (wKeep X.K c i ts D) := by
  rintro u t ⟨a, B, t0, ps, σ2, H2, cls, dd, rfl, J, nb, up, sky, un, os, ag, C, rfl, rfl, match_, yes⟩
  have frames : X.A.frames = some (X.env :: X.outer) := by rw [ok.frames, own]
  have J := J.ofTry ok
  show wpAny (model X.prog X.w) X.A (noteFrame (.ref a) X.env) _ _ _
  apply Sky.land Zc.steady frames fr (show Sky B (X.env :: X.outer) a (Zc (.ref C) none) X.env.locals t.heap by rw [← own]; exact sky)
  intro h1 f1 u1
  have J1 : Inv X pins σ2 H2 { t with heap := h1 } := J.landed nb f1.1 (up.trans u1) os ag
  obtain ⟨o1, v1, g1, z1, d1⟩ := f1.there
  have out := not_frame f1.2.2.1 g1 d1
  have here : a ≠ X.env.locals := fun z => out (List.mem_filterMap.mpr ⟨X.env, by simp, fr.trans (by rw [z])⟩)
  have outer : a ∉ X.fs := fun m => by
    obtain ⟨y, hy, q⟩ := List.mem_filterMap.mp m
    exact out (List.mem_filterMap.mpr ⟨y, by simp [hy], q⟩)
  have notB : ∀ b o, t0.heap.get? b = some o → b ∉ frs X.stack → b ≠ a := fun b o e h z => by
    have := nb b o e h
    rw [z, f1.2.1] at this
    cases this
  have new0 : X.s_0.heap.get? a = none := by
    cases q : X.s_0.heap.get? a with
    | none => rfl
    | some o =>
      obtain ⟨o', q'⟩ := J.base.there a o q (by rw [ex0]; nofun)
      exact absurd rfl (notB a o' q' (by rw [own]; exact out))
  have pinned : ∀ p ∈ X.pn ++ pins, p.1 ≠ a := fun p hp => by
    obtain ⟨q1, q2, q3, q4, q5⟩ := J.pin p hp
    refine notB p.1 p.2 q1 fun m => ?_
    rw [own] at m
    obtain ⟨y, hy, q⟩ := List.mem_filterMap.mp m
    rcases List.mem_cons.mp hy with e | e
    · subst e
      rw [fr] at q
      exact q3 (Option.some.inj q).symm
    · exact q4 (List.mem_filterMap.mpr ⟨y, e, q⟩)
  have T1 := J1.suite g1 d1 un here outer
  refine wpAny_handleBy_cons (codeAny_handlers_test ?_) nofun
  have cls_at : PySem.W.Looks (model X.prog X.w) h1 (typeOf (.ref a)) (.ref C) := fun _ _ _ _ kp q => wpAny_typeOf_ref (kp _ _ g1) (z1.1.symm ▸ q)
  have asked := PySem.W.exm_one (M := model X.prog X.w) J1.kIn cls_at match_
  have name : ∀ {Q E : Value → Shared → Prop}, Q c { t with heap := h1 } → wpAny (model X.prog X.w) (X.A.mark (some (.ref a))) (eval (.Name x np) X.env) Q E { t with heap := h1 } := fun q => by
    rcases hc with ⟨g, db, m | ⟨m, bb, ne⟩⟩
    · exact ld_glob (X := X.suite a ((a, o1) :: (X.pn ++ pins))) T1 g m q db
    · exact ld_blt (X := X.suite a ((a, o1) :: (X.pn ++ pins))) T1 g m bb q ne db
  apply name
  apply asked.here
  apply codeAny_handlers_suite_as
  apply HandSPX.lands_againZ f1
  intro h2 f2 u2
  have J2 : Inv X pins σ2 H2 { t with heap := h2 } := J.landed nb f2.1 ((up.trans u1).trans u2) os ag
  obtain ⟨o2, v2, g2, z2, d2⟩ := f2.there
  have T2 := J2.suite g2 d2 un here outer
  refine store_ok (X := X.suite a ((a, o2) :: (X.pn ++ pins))) (v := .ref a) T2 nd hi (.inl lc) rfl (fun s5 T5 => ?_) (.inr lc)
  refine wpAny_mono ((hsu a o2 (X.pn ++ pins)).run [] s5 _ H2 _ T5 (yes a un)) (fun fl s6 z => ?_) nofun
  have keep : ∀ {σ6 : L2.St} {H6 : Hp} {s6 : Shared}, Inv (X.suite a ((a, o2) :: (X.pn ++ pins))) [] σ6 H6 s6 → Inv X pins σ6 (upd H6 a (erO C a)) s6 := fun V => by
    obtain ⟨p1, p2, _⟩ := V.pin (a, o2) (List.mem_append.mpr (.inl List.mem_cons_self))
    have W := V.unsuite ok
    exact inv_tell (u := erO C a) W p2 new0 here (fun y cc e z => by
      obtain ⟨v, o, g, dc⟩ := W.cell y cc e
      rw [z, p1] at g
      have := Option.some.inj g
      rw [← this, d2] at dc
      cases dc) pinned (erO_ok p1 z2 ⟨_, d2⟩)
  match fl, z with
  | .next, ⟨_, H6, V, q⟩ => exact gone_ok (keep V) nd hi lc fun s7 K7 => ⟨_, _, K7, q⟩
  | .ret _, ⟨_, _, _, V, r, q⟩ => exact gone_ok (keep V) nd hi lc fun s7 K7 => ⟨_, _, _, K7, r, q⟩
  | .brk, ⟨_, _, _, q⟩ => exact q.elim
  | .cont, ⟨_, _, _, q⟩ => exact q.elim
theorem ps_try_keep (own : X.stack = X.env :: X.outer) (fr : X.env.frame = some X.env.locals) (ex0 : X.ex = []) (nd : X.N.Nodup) (hi : X.N[i]? = some n) (lc : X.env.kindOf n = some .local) (hc : Names X x c)
    (hb : ∀ (wish : WX) (ps : List (Addr × Obj)) (out : Value → Shared → Prop), Takes (X.tr ps out) wish → PassesOwn (model X.prog X.w) X.A X.env out → PSs (X.tr ps out) body (tb wish))
    (hsu : ∀ (a : Addr) (err : Obj) (ps : List (Addr × Obj)), PSs (X.suite a ((a, err) :: ps)) (b1 :: suite) (ts a)) :
    PS X (.Try body [.ExceptHandler (some (.Name x np)) (some n) (b1 :: suite) pos2] [] [] pos) (fun D σ H => tb (wKeep X.K c i ts D) D σ H) := by
  constructor
  intro pins s σ H D I h
  apply wpAny_Try_except
  have run := (hb _ _ _ (clause_keeps (np := np) (pos2 := pos2) own fr ex0 nd hi lc hc hsu I.ok pins D) PassesOwn.looking).run [] s σ H D (I.toTry _) h
  refine wpAny_mono run (fun fl s1 z => ?_) fun _ _ z => z
  match fl, z with
  | .next, ⟨_, _, V, q⟩ => exact wpAny_execs_nil ⟨_, _, V.ofTry I.ok, q⟩
  | .brk, ⟨_, _, V, q⟩ => exact ⟨_, _, V.ofTry I.ok, q⟩
  | .cont, ⟨_, _, V, q⟩ => exact ⟨_, _, V.ofTry I.ok, q⟩
  | .ret _, ⟨_, _, _, V, r, q⟩ => exact ⟨_, _, _, V.ofTry I.ok, r, q⟩
end
section
variable {K : PySem.W.Frag} {D : Addr} {tA : TA} {ds : List SD} {ms : List MD} {P : Po} {R : RS}
/-- try: f(..), except D as n: return n -/
def tTryE (K : PySem.W.Frag) (D : Addr) (i : Nat) (te : WX → TE) : TS := fun E σ H => tDrop (te (wKeep K (.ref D) i (fun _ => tRet (tVar i)) E)) E σ H
theorem keep_rt {L M : List Addr} {σ : L2.St} {H1 H2 : Hp} {ms2 : List MD} {C : Addr} {i : Nat} {E : Ends} (li : i < σ.length) (a2 : At L M ms2 H2) (w : Wk L H1 H2) (r : Rx K L M H1 P.rt E.rt) (y : P.rt (.h (erO C)) ms2) (a : Addr) (na : H2 a = none) :
    tRet (tVar i) { nx := fun σ' H' => E.nx (σ'.set i none) (upd H' a (erO C a)), rt := fun v H' => E.rt v (upd H' a (erO C a)), bk := fun _ _ => False, ct := fun _ _ => False } (σ.set i (some (.ref a))) H2 :=
  ⟨.ref a, List.getElem?_set_self li, r (.h (erO C)) _ _ ms2 (w.trans (Wk.new na)) ⟨a2.new na, a, rfl, a2.fresh na, upd_same⟩ y⟩
theorem s_tryE {i : Nat} {Φ : PhY} (li : i < ds.length) (h : EA K tA ds ms fun as ms1 => Φ as ms1 (fun _ ms2 => P.nx ds ms2) fun C ms2 => PySem.W.exmOne K (.ref C) (.ref D) = some true ∧ P.rt (.h (erO C)) ms2) :
    S K (tTryE K D i (fun W => tCallS (SpY K Φ) (WE W) tA)) ds ms P := fun L M σ H hS hA E n r b c =>
  h L M σ H hS hA _ fun as vs H1 ms1 w1 a1 o1 h1 =>
    ⟨L, M, ms1, as, _, _, a1, o1, h1, fun s v H2 ms2 w2 o2 r2 => n σ H2 ds ms2 (w1.trans w2) (hS.mono hA (w1.trans w2)) o2.at r2, fun C H2 ms2 w2 a2 y => ⟨C, rfl, rfl, y.1, fun a na => keep_rt (hS.lt li) a2 (w1.trans w2) r y.2 a na⟩⟩
end
/-! ### what classes are, and are not, of each other -/
theorem kit_no {K : PySem.W.Frag} {C D : Addr} (hc : PySem.W.isClsIn K D = true) (ht : PySem.W.typeIn K (.ref D) = some (.type "type")) (hs : PySem.W.subIn K (.ref C) (.ref D) = some false) (hr : PySem.W.subIn K (.ref C) (.ref C) = some true) : PySem.W.kitOne K (.ref C) (.ref D) = some false := by
  have hc : (PySem.W.clsIn K D).isSome = true := hc
  unfold PySem.W.kitOne
  by_cases e : ((Value.ref C == Value.ref D) = true)
  · have : C = D := by simpa using e
    subst this
    rw [hr] at hs
    cases hs
  · rw [if_neg e]
    show (if _ then _ else _) = _
    rw [hc, ht, hs]
    rfl
theorem exm_up {K : PySem.W.Frag} {C D : Addr} {b : Bool} (h1 : PySem.W.subIn K (.ref D) (.type "BaseException") = some true) (hc : PySem.W.isClsIn K D = true) (ht : PySem.W.typeIn K (.ref D) = some (.type "type")) (hs : PySem.W.subIn K (.ref C) (.ref D) = some b) : PySem.W.exmOne K (.ref C) (.ref D) = some b := by
  have hc : (PySem.W.clsIn K D).isSome = true := hc
  unfold PySem.W.exmOne
  rw [if_pos (by rw [h1]; rfl)]
  show (if _ then _ else _) = _
  rw [hc, ht, hs]
  rfl
end Hc

namespace Hc
open PySem PySem.Spec PyProof.Rows L2
/-! ### tuples that are known to be bare: they have methods -/
section
variable {K : PySem.W.Frag} {te ta tb tc tl : TE} {tt : TT} {tA : TA} {ds : List SD} {ms : List MD} {R : RS} {P : Po}
/-- such a tuple of ints -/
def TupI (ns : List Int) (M : List Addr) (H : Hp) (v : V) : Prop := ∃ (b : Addr) (o : Obj), v = .ref b ∧ b ∉ M ∧ H b = some (.frz o (.tup (ns.map V.int))) ∧ o.cls = .type "tuple" ∧ o.dict = none
theorem TupI.sq {ns : List Int} {M : List Addr} {H : Hp} {v : V} (h : TupI ns M H v) : ∃ a, v = .ref a ∧ SqT K H a (ns.map V.int) := by
  obtain ⟨b, o, e, n, q, c, d⟩ := h
  exact ⟨b, e, .inl (.inr ⟨o, q⟩)⟩
theorem e_varw {i : Nat} {φ : List Addr → Hp → V → Prop} (h : ds[i]? = some (.w φ)) (r : R (.w φ) ms) : E K (tVar i) ds ms R := fun L M σ H hS hA Q q => by
  obtain ⟨v, e, o⟩ := hS.get h (fun z => nomatch z)
  exact ⟨v, e, q _ v H ms (Wk.refl L H) (.of hA o) r⟩
/-- ("groups", such a tuple, a datum) -/
def Told3 (z : Str) (ns : List Int) (x : PyData) (M : List Addr) (H : Hp) (v : V) : Prop := ∃ (a : Addr) (u w : V), v = .ref a ∧ a ∉ M ∧ H a = some (.tup [.str z, u, w]) ∧ TupI ns M H u ∧ Rp M H w x
/-- of such slots: their type, their length -/
def TupW (φ : List Addr → Hp → V → Prop) (n : Nat) : Prop := ∀ M H v, φ M H v → ∃ (a : Addr) (xs : List V), v = .ref a ∧ xs.length = n ∧ (H a = some (.tup xs) ∨ ∃ o, H a = some (.frz o (.tup xs)))
theorem TupI.tup (ns : List Int) : TupW (TupI ns) ns.length := fun M H v ⟨b, o, e, n, q, c, d⟩ => ⟨b, _, e, by simp, .inr ⟨o, q⟩⟩
theorem Told3.tup (z : Str) (ns : List Int) (x : PyData) : TupW (Told3 z ns x) 3 := fun M H v ⟨a, u, w, e, n, q, hu, hw⟩ => ⟨a, _, e, rfl, .inl q⟩
end
end Hc

namespace Hc
open PySem PySem.Spec PyProof.Rows L2
/-! ### texts -/
section
variable {K : PySem.W.Frag} {te ta tb tc tl : TE} {tt : TT} {tA : TA} {ds : List SD} {ms : List MD} {R : RS} {P : Po} {ts : List TE} {acc : Str}
end
end Hc

namespace Hc
open PySem PySem.Spec PyProof.Rows L2
/-! ### expressions that may raise: errors that pass through a def -/
abbrev WO (X : XK) : WX := fun cls d _ H => X cls d H
section
variable {K : PySem.W.Frag} {C : Addr} {te : TE} {ue ua ub : XK → TE} {tA : TA} {uA : XK → TA} {ds : List SD} {ms : List MD} {R : RS} {P : Po} {Y : Addr → List MD → Prop}
def EX (K : PySem.W.Frag) (ue : XK → TE) (ds : List SD) (ms : List MD) (R : RS) (Y : Addr → List MD → Prop) : Prop :=
  ∀ (L M : List Addr) (σ : L2.St) (H : Hp), Sl K L M σ H ds → At L M ms H → ∀ X : XK, EyX L M H Y X → ∀ Q : VK, (∀ s v H' ms', Wk L H H' → Out K L M H H' ms' v s → R s ms' → Q v H') → ue X σ H Q
def EAX (K : PySem.W.Frag) (uA : XK → TA) (ds : List SD) (ms : List MD) (R : List SD → List MD → Prop) (Y : Addr → List MD → Prop) : Prop :=
  ∀ (L M : List Addr) (σ : L2.St) (H : Hp), Sl K L M σ H ds → At L M ms H → ∀ X : XK, EyX L M H Y X → ∀ Q : List V → Hp → Prop, (∀ as vs H' ms', Wk L H H' → At L M ms' H' → SlsOk K L M H' as vs → R as ms' → Q vs H') → uA X σ H Q
theorem ex_of (h : E K te ds ms R) : EX K (fun _ => te) ds ms R Y := fun L M σ H hS hA X x Q q => h L M σ H hS hA Q q
theorem eax_of {R : List SD → List MD → Prop} (h : EA K tA ds ms R) : EAX K (fun _ => tA) ds ms R Y := fun L M σ H hS hA X x Q q => h L M σ H hS hA Q q
theorem eax_nil {R : List SD → List MD → Prop} (r : R [] ms) : EAX K (fun _ => tNil) ds ms R Y := eax_of (ea_nil r)
theorem eax_cons {R : List SD → List MD → Prop} (h : EX K ua ds ms (fun a ms1 => EAX K uA ds ms1 (fun as ms2 => R (dd a :: as) ms2) Y) Y) : EAX K (fun X => tCons (ua X) (uA X)) ds ms R Y := fun L M σ H hS hA X x Q q =>
  h L M σ H hS hA X x _ fun a v H1 ms1 w1 o1 h1 => h1 L M σ H1 (hS.mono hA w1) o1.at X (x.on w1) _ fun as vs H2 ms2 w2 a2 o2 r2 => q (dd a :: as) (v :: vs) H2 ms2 (w1.trans w2) a2 ⟨v, vs, rfl, o1.sl.mono o1.at w2, o2⟩ r2
/-- a def that may raise -/
theorem ex_callX {Φ : PhX} (h : EAX K uA ds ms (fun as ms1 => Φ as ms1 R (Y C)) Y) : EX K (fun X => tCallS (SpX K C Φ) (WE (WO X)) (uA X)) ds ms R Y := fun L M σ H hS hA X x Q q =>
  h L M σ H hS hA X x _ fun as vs H1 ms1 w1 a1 o1 h1 =>
    ⟨L, M, ms1, as, R, Y C, a1, o1, h1, fun s v H3 ms3 w3 o3 r3 => q s v H3 ms3 (w1.trans w3) (o3.back a1 w1) r3, fun H3 ms3 w3 a3 y => x C H3 ms3 (w1.trans w3) a3 y⟩
theorem ex_callY {Φ : PhY} (h : EAX K uA ds ms (fun as ms1 => Φ as ms1 R Y) Y) : EX K (fun X => tCallS (SpY K Φ) (WE (WO X)) (uA X)) ds ms R Y := fun L M σ H hS hA X x Q q =>
  h L M σ H hS hA X x _ fun as vs H1 ms1 w1 a1 o1 h1 =>
    ⟨L, M, ms1, as, R, Y, a1, o1, h1, fun s v H3 ms3 w3 o3 r3 => q s v H3 ms3 (w1.trans w3) (o3.back a1 w1) r3, fun C H3 ms3 w3 a3 y => x C H3 ms3 (w1.trans w3) a3 y⟩
/-- one that raises nothing, its arguments may -/
theorem ex_call {Φ : Ph} (h : EAX K uA ds ms (fun as ms1 => Φ as ms1 R) Y) : EX K (fun X => tCall (SpD K Φ) [] E0 (uA X)) ds ms R Y := fun L M σ H hS hA X x Q q =>
  h L M σ H hS hA X x _ fun as vs H1 ms1 w1 a1 o1 h1 => by
    rw [List.append_nil]
    exact ⟨L, M, ms1, as, R, a1, o1, h1, fun s v H3 ms3 w3 o3 r3 => q s v H3 ms3 (w1.trans w3) (o3.back a1 w1) r3⟩
/-- statements with such an expression -/
theorem sy_asg {i : Nat} (h : EX K ue ds ms (fun s ms1 => P.nx (ds.set i (dd s)) ms1) Y) : SY K (fun X => tAsg (ue X) (gName i)) ds ms P Y := fun L M σ H hS hA D X n r b c x =>
  h L M σ H hS hA X x _ fun s v H1 ms1 w o h1 => n _ H1 _ ms1 w ((hS.mono hA w).set i o.sl) o.at h1
theorem sy_ret (h : EX K ue ds ms P.rt Y) : SY K (fun X => tRet (ue X)) ds ms P Y := fun L M σ H hS hA D X n r b c x => h L M σ H hS hA X x _ fun s v H1 ms1 w o h1 => r s v H1 ms1 w o h1
section
variable {K : PySem.W.Frag} {uA : XK → TA} {ds : List SD} {ms : List MD} {P : Po} {Y : Addr → List MD → Prop}
end
/-! ### d.get(key, other) of a dict whose keys are rows -/
theorem Rt.not (k : List Key) {M : List Addr} {H : Hp} : ∀ {m : List (List Key × PyData)} {kvs : List (List Key × V)}, Rt M H kvs m → valT m k = none → valV kvs k = none
  | _, _, .nil, _ => rfl
  | (k1, d1) :: m, (_, v1) :: kvs, .cons a b, e => by
    by_cases q : k1 = k
    · simp [valT, q] at e
    · have e1 : valT ((k1, d1) :: m) k = valT m k := by simp [valT, List.find?_cons, q]
      rw [e1] at e
      have := Rt.not k b e
      unfold valV at this ⊢
      rw [List.find?_cons, show (decide (k1 = k)) = false from decide_eq_false q]
      exact this
theorem e_getT {td ty tx : TE} (h : E K td ds ms fun s ms1 => ∃ k m1, s = .q k ∧ ms1[k]? = some (.t m1) ∧ E K ty ds ms1 fun y ms2 => E K tx ds ms2 fun z ms3 => ∃ m key d, ms3[k]? = some (.t m) ∧ dd y = .d (rowK key) ∧ dd z = .d d ∧ R (.d ((valT m key).getD d)) ms3) : E K (tDGet2 td ty tx) ds ms R := fun L M σ H hS hA Q q =>
  h L M σ H hS hA _ fun s x H1 ms1 w1 o1 ⟨k, m1, ek, em1, h1⟩ => by
    subst ek
    obtain ⟨a1, p, rfl, hp, _⟩ := o1
    obtain ⟨kvs1, e1, _⟩ := a1.getT hp em1
    refine ⟨p, rfl, .inr ⟨kvs1, .inl e1⟩, ?_⟩
    refine h1 L M σ H1 (hS.mono hA w1) a1 _ fun y v2 H2 ms2 w2 o2 h2 => ?_
    refine h2 L M σ H2 ((hS.mono hA w1).mono a1 w2) o2.at _ fun z v3 H3 ms3 w3 o3 ⟨m, key, d, em, ey, ez, r⟩ => ?_
    have a3 := o3.at
    have oy := o2.sl.mono o2.at w3
    rw [ey] at oy
    have oz := o3.sl
    rw [ez] at oz
    obtain ⟨b, rfl, eb⟩ := row_key oy
    obtain ⟨kvs, e3, r3⟩ := a3.getT hp em
    refine ⟨valV kvs key, .inr ⟨kvs, key, b, .inl e3, rfl, eb, rfl⟩, ?_⟩
    have w := (w1.trans w2).trans w3
    cases hv : valT m key with
    | none =>
      rw [Rt.not key r3 hv]
      rw [hv] at r
      exact q (.d d) _ H3 ms3 w ⟨a3, oz⟩ r
    | some d2 =>
      obtain ⟨v, e4, e5⟩ := r3.val key hv
      rw [e4]
      rw [hv] at r
      exact q (.d d2) _ H3 ms3 w ⟨a3, e5⟩ r
/-- i << j -/
abbrev rShlI : R2 := rI CPow fun i j => .int (i * 2 ^ j.toNat)
end
end Hc

namespace Hc
open PySem PySem.Spec PyProof.Rows L2
/-! ### try with one clause that names nothing, whose suite raises nothing -/
section
variable {K : PySem.W.Frag} {C D : Addr} {tA : TA} {ds : List SD} {ms : List MD} {P : Po} {t : TS}
end
end Hc

namespace Hc
open PySem PySem.Spec PyProof.Rows L2
/-! ### except D: raise C('..') from None. What the body calls tells its errors by L2N -/
section
variable {K : PySem.W.Frag} {C D B : Addr} {tA : TA} {ds : List SD} {ms : List MD} {P : Po} {Y : List MD → Prop}
/-- a def whose errors have no context -/
structure KnN (Pg : Program) (w : World) (K : PySem.W.Frag) (mg : Str → Option Value) (base : Heap) (x : Str) (lv : Nat) (ps : List Str) (C : Addr) (Φ : PhX) : Prop where
  ex : ∃ f fd, FnOk Pg w K mg base (L2N.CX Pg w) lv f fd ps (SpX K C Φ) ∧ mg x = some (.ref f) ∧ PySem.W.keepIn K (.ref f) = true ∧ Binds K fd ps []
end
/-! ### parts of a text -/
section
variable {K : PySem.W.Frag} {te : TE} {to th : TO} {ds : List SD} {ms : List MD} {R : RS}
end
end Hc

namespace Hc
open PySem PySem.Spec PyProof.Rows L2
section
variable {K : PySem.W.Frag} {ds : List SD} {ms : List MD} {R : RS}
/-! ### an error that is kept is not None -/
end
end Hc

namespace Hc
open PySem PySem.Spec PyProof.Rows L2
/-! ### is a tuple among the members of a set of tuples -/
section
variable {P : Program} {w : World} {A : Around} {E : Value → Shared → Prop} {s : Shared} {a : Addr} {L : List (Addr × List Int)} {es : Array (Int × Value)} {ep : Nat} {t : SetTable}
end
section
variable {X : Cx} {pins : List (Addr × Obj)} {σ : L2.St} {H : Hp} {s : Shared}
end
section
variable {K : PySem.W.Frag} {P : Program} {w : World} {ds : List SD} {ms : List MD} {R : RS} {L M : List Addr} {H : Hp}
/-! ### a set of rows of numbers, as it stands in the store -/
/-! ### a new one, until the block's end -/
end
section
variable {X : Cx} {ob x : Expr} {to te : TE} {q1 q2 : Pos}
end
end Hc

namespace Hc
open PySem PySem.Spec PyProof.Rows L2
/-! ### a dict of rows that is handed on and stays as it is -/
section
variable {K : PySem.W.Frag} {ds : List SD} {ms : List MD} {R : RS} {L M : List Addr} {H : Hp}
def isT (m : List (List Key × PyData)) : List Addr → Hp → V → Prop := fun M H v => ∃ (a : Addr) (kvs : List (List Key × V)), v = .ref a ∧ a ∉ M ∧ H a = some (.dT kvs) ∧ Rt M H kvs m
/-! `x = {}` whose block may give the dict back -/
end
end Hc

namespace Hc
open PySem PySem.Spec PyProof.Rows L2
/-! ### zip(xs, t) of a list and a tuple -/
section
variable {K : PySem.W.Frag} {te : TE} {tt : TT} {tA : TA} {ds : List SD} {ms : List MD} {R : RS}
/-! ### the rest for dicts and sets that stay -/
end
end Hc

namespace Hc
open PySem PySem.Spec PyProof.Rows L2
section
variable {K : PySem.W.Frag} {te : TE} {tt : TT} {tA : TA} {ds : List SD} {ms : List MD} {R : RS}
/-! ### a comprehension over enumerate(a list) -/
end
end Hc

namespace Hc
open PySem PySem.Spec PyProof.Rows L2
/-! ### == and != of anything with a text, of a row with an empty one -/
section
open PySem.SeqAt PySem.AutoSeq1 PySem.MeetsSeq
variable {l : Addr} {c : Obj} {es : Array DictEntry} {ep : Nat} (hc : c.cls = .type "dict") (hd : c.data = .dict es ep) (z : Str) (t : Tok)
include hc hd
variable {prog : Program} {w : World} {A : Around} {E : Value → Shared → Prop} {s : Shared} {Q : Value → Shared → Prop}
end
/-- a thing that holds things: a list, a tuple, a dict -/
def Holds (K : PySem.W.Frag) (H : Hp) (a : Addr) : Prop := (∃ xs, SqL K H a xs) ∨ (∃ xs, SqT K H a xs) ∨ ∃ kvs, H a = some (.dK kvs)
section
variable {X : Cx}
end
section
variable {K : PySem.W.Frag} {ms : List MD} {R : RS} {L M : List Addr} {H : Hp}
end
end Hc

namespace Hc
open PySem PySem.Spec PyProof.Rows L2
/-! ### the entries of a dict of rows, walked over while it is locked -/
section
variable {X : Cx} {pins : List (Addr × Obj)} {σ : L2.St} {H : Hp} {s : Shared} {d : Addr} {od : Obj} {kvs : List (List Key × V)}
structure RowsAt (H : Hp) (h : Heap) (d : Addr) (od : Obj) (kvs : List (List Key × V)) (es : Array DictEntry) (ep : Nat) : Prop where
  sys : (d == sysModules) = false
  raw : DT.Raw h d es ep
  dat : od.data = .dict es ep
  size : es.size = kvs.length
  ent : ∀ (i : Nat) (k : List Key) (v : V), kvs[i]? = some (k, v) → ∃ (hi : i < es.size) (q : Addr), es[i].key = .ref q ∧ H q = some (.tup (k.map kV)) ∧ RelV v es[i].val
theorem rowsZ_at (I : Inv X pins σ H s) (e : H d = some (.frz od (.dT kvs))) : ∃ es ep, RowsAt H s.heap d od kvs es ep := by
  obtain ⟨at_d, _, sys, xs, pr, od', es, ep, at_d', ex, dat, ents, _⟩ := I.hok d _ e
  rw [at_d] at at_d'
  cases at_d'
  have len : es.size = kvs.length := (size_of_entries ents).trans (Paired.length pr).symm
  refine ⟨es, ep, sys, ⟨od, at_d, ex, dat⟩, dat, len, fun i k v hk => ?_⟩
  have hi : i < es.size := by
    rw [len]
    exact (List.getElem?_eq_some_iff.mp hk).1
  obtain ⟨x, hx, _, hq, rv⟩ := paired_get pr hk
  have hen := entry_at ents i
  rw [hx, Array.getElem?_eq_getElem hi] at hen
  have hen := Option.some.inj hen
  exact ⟨hi, x.2.1, by rw [hen]; rfl, hq, by rw [hen]; exact rv⟩
/-- each entry in its turn: a new pair of the key's own tuple and the value -/
def ItR (d : Addr) (od : Obj) (kvs : List (List Key × V)) : It where
  go := fun i H => H d = some (.frz od (.dT kvs)) ∧ i < kvs.length
  yld := fun i H x H' => ∃ (N q : Addr) (k : List Key) (v : V), kvs[i]? = some (k, v) ∧ H q = some (.tup (k.map kV)) ∧ x = .ref N ∧ H N = none ∧ H' = upd H N (.tup [.ref q, v])
  stop := fun i H => H d = some (.frz od (.dT kvs)) ∧ kvs.length ≤ i
abbrev StR (it d : Addr) (n ep : Nat) : Nat → Heap → Prop := fun i h => ∃ a b, IsItemIter h it d i n ep a b
theorem turn_rows {P : Program} {w : World} {K : PySem.W.Frag} {elts : List Expr} {kk ep : Nat} {tpos : Pos} {es : Array DictEntry} (it : Addr) (dat : od.data = .dict es ep) : Turn P w K (.Tuple elts kk tpos) (ItR d od kvs) [it] it (StR it d kvs.length ep) := by
  have one : ∀ {b : Addr}, b ∈ [it] → b = it := fun h => List.mem_singleton.mp h
  constructor
  case mem => exact List.mem_singleton.mpr rfl
  case obj =>
    rintro i h ⟨a, b, e⟩ c hc
    cases one hc
    exact ⟨_, e, nofun⟩
  case keep =>
    rintro i h h' ⟨a, b, e⟩ kp
    exact ⟨a, b, kp it (List.mem_singleton.mpr rfl) _ e⟩
  case self =>
    rintro A i s Q E ⟨a, b, e⟩ q
    exact PySem.W.kcp_self e q
  case done =>
    rintro X rfl rfl rfl calm i pins s σ H E I free ⟨a, b, e⟩ ⟨hd, le⟩
    obtain ⟨es', ep', R⟩ := rowsZ_at I hd
    obtain ⟨rfl, rfl⟩ := dict_ep dat R.dat
    rw [← R.size] at e le
    obtain ⟨g0, g1, g2, g3, g4, g5⟩ := free it (List.mem_singleton.mpr rfl)
    exact DT.endI (I.ok.hd calm) e R.raw le fun h' eb => ⟨rfl, I.turned (t' := s.toks) (fun b ob hb hob => eb b ob hb hob) g0 g1 g3 g4 g5⟩
  case item =>
    rintro X rfl rfl rfl calm i pins s σ H E I free ⟨a, b, e⟩ ⟨hd, lt⟩
    obtain ⟨es', ep', R⟩ := rowsZ_at I hd
    obtain ⟨rfl, rfl⟩ := dict_ep dat R.dat
    obtain ⟨kv, hkv⟩ : ∃ kv, kvs[i]? = some kv := ⟨_, List.getElem?_eq_getElem lt⟩
    obtain ⟨k, v⟩ := kv
    obtain ⟨hi, q, hkey, hq, rv⟩ := R.ent i k v hkv
    rw [← R.size] at e
    have low : it < s.heap.objs.size := Heap.lt_size e
    refine DT.nextI e R.raw hi fun h1 out tup big kp => ⟨_, rfl, ?_⟩
    refine wpAny_letOwnedTupleGo_items (s := { s with heap := h1 }) out fun h2 e2 sb => ?_
    have hN : H s.heap.objs.size = none := I.hok.fresh (Nat.le_refl _)
    have tup2 : h2.get? s.heap.objs.size = some { cls := .type "tuple", data := .seq #[es'[i].key, es'[i].val] } := (sb.2 _ (Nat.ne_of_gt low)).trans tup
    have laid : ObjOk X.prog X.w (upd H s.heap.objs.size (.tup [.ref q, v])) h2 s.heap.objs.size (.tup [.ref q, v]) :=
      ⟨Nat.le_of_ble_eq_true rfl, [es'[i].key, es'[i].val], .cons hkey (.cons rv .nil), ⟨_, tup2, rfl, _, rfl⟩⟩
    have I2 := I.turnedNew (t' := s.toks) (ch := [it]) (h' := h2) (fun b ob hb hob => (sb.2 b fun z => hb (List.mem_singleton.mpr z)).trans (kp b ob (fun z => hb (List.mem_singleton.mpr z)) hob)) free (Nat.le_refl _) laid
    refine ⟨.ref s.heap.objs.size, _, I2, rfl, ⟨_, q, k, v, hkv, hq, rfl, hN, rfl⟩, ⟨_, _, by rw [← R.size]; exact e2⟩, fun b hb => ?_⟩
    cases one hb
    rw [upd_ne (Nat.ne_of_lt low)]
    exact (free it (List.mem_singleton.mpr rfl)).1
def iRows (td : TE) : TI := fun σ H R => td σ H fun x H1 => ∃ d od kvs, x = .ref d ∧ H1 d = some (.frz od (.dT kvs)) ∧ R (ItR d od kvs) H1
theorem pi_rows {elts : List Expr} {kk : Nat} {tpos apos cpos : Pos} {e : Expr} {td : TE} (he : PE X e td) (base : attributeBase e "items" X.env (eval e X.env) = eval e X.env := by rfl) (line : (apos.endLine == cpos.line) = true := by rfl) :
    PI X (.Tuple elts kk tpos) (.Call (.Attribute e "items" apos) [] [] cpos) (iRows td) := by
  constructor
  intro pins s σ H R I h
  refine wpAny_Call_method (T := "dict") (id := "dict.items") base rfl line PySem.F.plainAttrs_dict PySem.F.slot_dict_items PySem.F.type_dict_items (thn (he.run pins s σ H _ I h) ?_)
  rintro u s1 ⟨x, H1, I1, rx, d, od, kvs, rfl, hd, q⟩
  cases rx
  obtain ⟨es, ep, R1⟩ := rowsZ_at I1 hd
  obtain ⟨o, at_o, ex, dat⟩ := id R1.raw
  have plain : ∀ b, Value.ref d = .ref b → ∃ ob, s1.heap.get? b = some ob ∧ ob.dict = none := fun b z => by
    cases z
    exact ⟨o, at_o, ex.2.1⟩
  refine ⟨R1.raw.typeIs, plain, ?_⟩
  refine Calls.callWith_builtin rfl (PySem.evalArgs_none ?_)
  refine DT.callItems R1.sys R1.raw ?_
  have I2 := I1.kept (t' := s1.toks) (h' := s1.heap.push { cls := .type "dict_items", data := .fields #[.ref d] }) fun b ob z => Heap.get?_push_of_some _ z
  refine DT.iterI (d := d) (es := es) (ep := ep) ⟨_, Heap.get?_push_size _ rfl, rfl, rfl⟩ (R1.raw.push _) ?_
  refine pi_one (tk := s1.toks) I2 _ (turn_rows _ R1.dat) ⟨.none, .none, ?_⟩ q
  rw [← R1.size]
  exact Heap.get?_push_size _ rfl
theorem walk_rows : Walk (ItR d od kvs) kvs.length (fun H => H d = some (.frz od (.dT kvs))) fun i H x H' => ∃ (N q : Addr) (k : List Key) (v : V), kvs[i]? = some (k, v) ∧ H q = some (.tup (k.map kV)) ∧ x = .ref N ∧ H N = none ∧ H' = upd H N (.tup [.ref q, v]) :=
  ⟨fun _ _ hi q => ⟨q, hi⟩, fun _ q => ⟨q, Nat.le_refl _⟩, fun _ _ _ _ _ _ y => y⟩
end
end Hc

namespace Hc
open PySem PySem.Spec PyProof.Rows L2
/-! ### a dict of rows that is locked for good -/
/-- the statement, and then a dict of rows is locked -/
def tLkA (t : TS) : TS := fun D σ H => t { D with nx := fun σ1 H1 => ∃ d kvs, H1 d = some (.dT kvs) ∧ ∀ od, D.nx σ1 (upd H1 d (.frz od (.dT kvs))) } σ H
theorem ps_lkA {X : Cx} {st : Stmt} {t : TS} (h : PS X st t) : PS X st (tLkA t) := by
  constructor
  intro pins s σ H D I hw
  refine thn (h.run pins s σ H _ I hw) fun f s1 q => ?_
  cases f with
  | next =>
    obtain ⟨σ1, H1, I1, d, kvs, e, q⟩ := q
    obtain ⟨od, I2⟩ := I1.lock e trivial
    exact ⟨σ1, _, I2, q od⟩
  | brk => exact q
  | cont => exact q
  | ret v => exact q
def isZ (m : List (List Key × PyData)) : List Addr → Hp → V → Prop := fun M H v => ∃ (a : Addr) (od : Obj) (kvs : List (List Key × V)), v = .ref a ∧ a ∉ M ∧ H a = some (.frz od (.dT kvs)) ∧ Rt M H kvs m
theorem isZ_stb {m : List (List Key × PyData)} : Stb (isZ m) := fun M M' H H' v t ⟨a, od, kvs, e, n, h1, h2⟩ => ⟨a, od, kvs, e, (t _ _ n h1).1, (t _ _ n h1).2, h2.toP t⟩
section
variable {K : PySem.W.Frag} {te tl td ty : TE} {tt : TT} {ds : List SD} {ms : List MD} {R : RS} {L M : List Addr} {H : Hp}
theorem Rt.at {m : List (List Key × PyData)} {kvs : List (List Key × V)} (r : Rt M H kvs m) : ∀ {i : Nat} {k : List Key} {v : V}, kvs[i]? = some (k, v) → ∃ d, m[i]? = some (k, d) ∧ Rp M H v d := by
  induction r with
  | nil => intro i k v e; cases e
  | @cons k0 v0 d0 kvs m a b ih =>
    intro i k v e
    cases i with
    | zero =>
      have e := Option.some.inj e
      cases e
      exact ⟨d0, rfl, a⟩
    | succ i => exact ih e
/-- a tuple is never among what may change -/
theorem At.notTup (h : At L M ms H) {q : Addr} {xs : List V} (e : H q = some (.tup xs)) : q ∉ M := fun z => by
  obtain ⟨o, e1, n⟩ := h.al q z
  rw [e] at e1
  cases e1
  exact n
theorem rp_rowK (h : At L M ms H) {q : Addr} {k : List Key} (e : H q = some (.tup (k.map kV))) : Rp M H (.ref q) (rowK k) := .tup (h.notTup e) e (rpa_keys k)
/-- a comprehension over the entries of such a dict -/
theorem e_lcRows {g : TG} {js vs : List Nat} (hj : ∀ j ∈ js, j ∈ vs) (h : E K tl ds ms fun s ms0 => ∃ m : List (List Key × PyData), s = .w (isZ m) ∧ m.length ≤ 10000 ∧ ∃ Pv : Nat → List PyData → List MD → Prop, Pv 0 [] ms0 ∧
      (∀ i k e acc ms1, m[i]? = some (k, e) → Pv i acc ms1 → Lt K g js tt te vs ds (.d (.tuple [rowK k, e])) ms1 acc (Pv (i + 1))) ∧ ∀ acc ms1, Pv m.length acc ms1 → R (.f acc) ms1) :
    E K (tLc (iRows tl) g tt te vs) ds ms R := fun L M σ H hS hA Q q =>
  h L M σ H hS hA _ fun s v H1 ms0 w o ⟨m, es, hz, Pv, h0, hs, hd⟩ => by
    subst es
    have a1 := o.1
    obtain ⟨⟨a, od, kvs, rfl, na, ea, r1⟩, _⟩ := o.2
    have len : kvs.length = m.length := r1.length
    refine ⟨a, od, kvs, rfl, ea, fun D hD => ?_⟩
    have hDL := a1.freshL hD
    have stays : ∀ {H' : Hp}, Wk L H1 H' → H' a = some (.frz od (.dT kvs)) := fun w' => w' a _ (fun z => na (a1.sub a z)) ea
    refine lc_it walk_rows (fun i H' => ∃ acc ms', Cs L M H1 D i acc ms' H' ∧ Pv i acc ms') ⟨[], ms0, .start a1 hD, h0⟩ (fun i H' _ ⟨_, _, c, _⟩ => stays c.w) (fun i x H' H2 hi ⟨acc, ms', c, p⟩ y => ?_) (fun H' ⟨acc, ms', c, p⟩ => ?_)
    · obtain ⟨N, b, k, v, hk, hb, rfl, hN, rfl⟩ := y
      obtain ⟨e, e1, e2⟩ := r1.at hk
      have c2 := c.new (o := .tup [.ref b, v]) hN
      have t2 : To M (M ++ [D]) H1 (upd H' N (.tup [.ref b, v])) := to_new a1 hD c2.w
      have rb : Rp (M ++ [D]) (upd H' N (.tup [.ref b, v])) (.ref b) (rowK k) := rp_rowK c2.a (by rw [upd_ne (ne_of_none hb hN)]; exact hb)
      have ho : SlOk K L (M ++ [D]) (upd H' N (.tup [.ref b, v])) (.d (.tuple [rowK k, e])) (.ref N) := Rp.tup (c.a.fresh hN) upd_same (.cons rb (.cons (Rp.to t2 _ _ e2) .nil))
      exact lc_turn2 (x := .d (.tuple [rowK k, e])) (v := .ref N) (Nn := Pv) hj (by omega) (hS.mono hA w) a1 hD c2 ho (hs i k e acc ms' e1 p)
    · rw [len] at p
      exact q (.f acc) _ H' ms' (w.trans c.w) ⟨D, rfl, none_back a1 w (a1.fresh hD) hD, a1.fresh hD, c.done a1.sub hDL, a1.sub⟩ (hd acc ms' p)
end
/-! ### d.setdefault(k, x), k a row -/
section
variable {X : Cx} {pins : List (Addr × Obj)} {σ : L2.St} {H : Hp} {s : Shared} {a b : Addr} {kvs : List (List Key × V)} {k : List Key} {z : V} {A : Around} {E : Value → Shared → Prop} {Q : Value → Shared → Prop}
theorem setd_row {r : Value} (hu : A.units + 1 < cLine) (I : Inv X pins σ H s) (e : H a = some (.dT kvs)) (eb : H b = some (.tup (k.map kV))) (rz : RelV z r) (hl : kvs.length < sizeLine)
    (there : ∀ v, valV kvs k = some v → ∀ u s1, Inv X pins σ H s1 → RelV v u → Q u s1) (new : valV kvs k = none → ∀ s1, Inv X pins σ (upd H a (.dT (putK kvs k z))) s1 → Q r s1) :
    wpAny (model X.prog X.w) A (call (.builtin "dict.setdefault") [.ref a, .ref b, r]) Q E s := by
  obtain ⟨size, sys, xs, rel, at_⟩ := dt_of I.hok e
  have few : xs.length ≤ sizeLine := Nat.le_trans (Nat.le_of_eq (Paired.length rel).symm) size
  have val := rel.val k
  refine call_setdefault_heap (hsz := few) (tupleKind_room_in1 hu) (key_of I.hok eb) sys at_ (fun p hp => ?_) fun hn h1 at1 same => ?_
  · rw [hp] at val
    cases hv : valV kvs k with
    | none => rw [hv] at val; exact val.elim
    | some v =>
      rw [hv] at val
      exact there v hv _ _ (I.tok _) val
  · rw [hn] at val
    have hv : valV kvs k = none := by
      cases hv : valV kvs k with
      | none => rfl
      | some v => rw [hv] at val; exact val.elim
    have few2 : (putK kvs k z).length ≤ sizeLine := Nat.le_trans (length_putK kvs k z) hl
    obtain ⟨o, es, ep, at_o, cls, dat, ents, _, nd⟩ := at1
    refine new hv _ (d_write I (by rw [e]; trivial) same ⟨o, at_o⟩ ⟨few2, sys, _, (rel.put k eb rz).keeps fun c ys ec => ?_, o, es, ep, at_o, cls, dat, ents, nd⟩)
    rw [upd_ne (ne_of ec e nofun)]
    exact ec
def tSetR (td ty tx : TE) : TE := fun σ H Q => td σ H fun x H1 => ∃ a, x = .ref a ∧ IsD H1 a ∧ ty σ H1 fun y H2 => tx σ H2 fun z H3 => ∃ (kvs : List (List Key × V)) (k : List Key) (b : Addr), H3 a = some (.dT kvs) ∧ y = .ref b ∧ H3 b = some (.tup (k.map kV)) ∧ kvs.length < sizeLine ∧
  (∀ v, valV kvs k = some v → Q v H3) ∧ (valV kvs k = none → Q z (upd H3 a (.dT (putK kvs k z))))
theorem pe_setR {o e f : Expr} {td ty tx : TE} {apos cpos : Pos} (hu : X.A.units + 1 < cLine) (ho : PE X o td) (he : PE X e ty) (hf : PE X f tx) (m : M2 X o "setdefault" apos e f cpos) : PE X (.Call (.Attribute o "setdefault" apos) [e, f] [] cpos) (tSetR td ty tx) := by
  constructor
  intro pins s σ H Q I h
  refine wpAny_Call_method m.base m.few m.line PySem.F.plainAttrs_dict PySem.F.slot_dict_setdefault PySem.F.type_dict_setdefault (thn (ho.run pins s σ H _ I h) ?_)
  rintro u s1 ⟨x, H1, I1, rx, a, rfl, d, q1⟩
  cases rx
  obtain ⟨y1, y2, _⟩ := isD_at I1 d
  refine ⟨y1, y2, ?_⟩
  rw [m.trees]
  refine Calls.callWith_builtin rfl (Calls.evalArgs_plain (Calls.spliced_cons (thn (he.run pins s1 σ H1 _ I1 q1) ?_)))
  rintro ku s2 ⟨y, H2, I2, ry, q2⟩
  refine Calls.spliced_cons (thn (hf.run pins s2 σ H2 _ I2 q2) ?_)
  rintro zu s3 ⟨z, H3, I3, rz, kvs, k, b, ea, rfl, eb, hl, q3, q4⟩
  cases ry
  exact Calls.spliced_nil (setd_row hu I3 ea eb rz hl (fun v hv w s4 I4 rw4 => ⟨v, _, I4, rw4, q3 v hv⟩) fun hn s4 I4 => ⟨z, _, I4, rz, q4 hn⟩)
end
end Hc

namespace Hc
open PySem PySem.Spec PyProof.Rows L2
/-! ### statements with a hidden state: things that are no data, and that the store does not tell -/
/-- x is what is known of it, X the addresses it lies at -/
abbrev HT (τ : Type) := τ → List Addr → List Addr → Hp → Prop
/-- it stays where its own objects stay and the data stays -/
def HSt {τ : Type} (Θ : HT τ) : Prop := ∀ (x : τ) (X M M' : List Addr) (H H' : Hp), To M M' H H' → (∀ a ∈ X, H' a = H a) → Θ x X M H → Θ x X M' H'
/-- how the heap goes on where the hidden things at X may change, too, and may become more -/
structure Gh (L X M : List Addr) (H : Hp) (X' M' : List Addr) (H' : Hp) : Prop where
  st : ∀ a o, a ∉ L → a ∉ X → H a = some o → H' a = some o
  kd : ∀ a o, H a = some o → ∃ o', H' a = some o' ∧ kindO o' = kindO o
  sub : ∀ a ∈ M, a ∈ M'
  new : ∀ a ∈ M', a ∈ M ∨ H a = none
  keep : ∀ a ∈ X, a ∈ X'
  xnew : ∀ a ∈ X', a ∈ X ∨ H a = none
structure HX (L X M : List Addr) : Prop where
  inM : ∀ a ∈ X, a ∈ M
  apart : ∀ a ∈ X, a ∉ L
section
variable {L X M X1 M1 X2 M2 : List Addr} {ms : List MD} {H H1 H2 : Hp}
theorem kd_none (kd : ∀ a o, H a = some o → ∃ o', H1 a = some o' ∧ kindO o' = kindO o) {a : Addr} (e : H1 a = none) : H a = none := by
  cases q : H a with
  | none => rfl
  | some o =>
    obtain ⟨o', e', _⟩ := kd a o q
    rw [e] at e'
    cases e'
theorem Gh.of (w : Wk L H H1) : Gh L X M H X M H1 := ⟨fun a o n _ e => w a o n e, w.kd, fun _ h => h, fun _ h => .inl h, fun _ h => h, fun _ h => .inl h⟩
theorem Gh.trans (g : Gh L X M H X1 M1 H1) (k : Gh L X1 M1 H1 X2 M2 H2) : Gh L X M H X2 M2 H2 where
  st := fun a o nl nx e => k.st a o nl (fun z => (g.xnew a z).elim nx fun q => by rw [e] at q; cases q) (g.st a o nl nx e)
  kd := fun a o e => by
    obtain ⟨o1, e1, k1⟩ := g.kd a o e
    obtain ⟨o2, e2, k2⟩ := k.kd a o1 e1
    exact ⟨o2, e2, k2.trans k1⟩
  sub := fun a h => k.sub a (g.sub a h)
  new := fun a h => (k.new a h).elim (g.new a) fun q => .inr (kd_none g.kd q)
  keep := fun a h => k.keep a (g.keep a h)
  xnew := fun a h => (k.xnew a h).elim (g.xnew a) fun q => .inr (kd_none g.kd q)
theorem Gh.to (g : Gh L X M H X1 M1 H1) (sub : ∀ a ∈ L, a ∈ M) (hx : HX L X M) : To M M1 H H1 := fun a o n e =>
  ⟨fun z => (g.new a z).elim n (fun q => by rw [e] at q; cases q), g.st a o (fun z => n (sub a z)) (fun z => n (hx.inM a z)) e⟩
theorem hid_same (hA : At L M ms H) (hx : HX L X M) (w : Wk L H H1) : ∀ a ∈ X, H1 a = H a := fun a h => by
  obtain ⟨o, e, _⟩ := hA.al a (hx.inM a h)
  rw [e, w a o (hx.apart a h) e]
/-- a hidden thing changes -/
theorem At.hid (hA : At L M ms H) {q : Addr} {o o0 : HO} (qM : q ∈ M) (qL : q ∉ L) (e0 : H q = some o0) (no : NTup o) : At L M ms (upd H q o) := by
  have t : To M M H (upd H q o) := fun a u n e => ⟨n, by rw [upd_ne (fun z : a = q => n (by rw [z]; exact qM))]; exact e⟩
  refine ⟨hA.nd, hA.sub, fun a ha => ?_, hA.ln, fun k a m e1 e2 => (hA.ok k a m e1 e2).to t (upd_ne fun z => qL (z ▸ List.mem_of_getElem? e1))⟩
  by_cases z : a = q
  · rw [z, upd_same]; exact ⟨_, rfl, no⟩
  · rw [upd_ne z]; exact hA.al a ha
/-- hidden things are hidden no more -/
theorem At.less (hA : At L M1 ms H) (sub : ∀ a ∈ M, a ∈ M1) (sl : ∀ a ∈ L, a ∈ M) : At L M ms H :=
  ⟨hA.nd, sl, fun a ha => hA.al a (sub a ha), hA.ln, fun k a m e1 e2 => (hA.ok k a m e1 e2).to (fun b o n e => ⟨fun z => n (sub b z), e⟩) rfl⟩
end
def SH {τ : Type} (K : PySem.W.Frag) (Θ : HT τ) (t : TS) (ds : List SD) (ms : List MD) (x : τ) (N : List SD → List MD → τ → Prop) : Prop :=
  ∀ (L M X : List Addr) (σ : L2.St) (H : Hp), Sl K L M σ H ds → At L M ms H → HX L X M → Θ x X M H → ∀ D : Ends,
    (∀ σ' H' ds' ms' x' X' M', Gh L X M H X' M' H' → Sl K L M' σ' H' ds' → At L M' ms' H' → HX L X' M' → Θ x' X' M' H' → N ds' ms' x' → D.nx σ' H') → t D σ H
section
variable {τ : Type} {Θ : HT τ} {K : PySem.W.Frag} {t u : TS} {tt : TT} {tl te tk : TE} {tA : TA} {ds : List SD} {ms : List MD} {x : τ} {N : List SD → List MD → τ → Prop}
theorem sh_of (st : HSt Θ) (h : S K t ds ms ⟨fun ds' ms' => N ds' ms' x, fun _ _ => False, fun _ _ => False, fun _ _ => False⟩) : SH K Θ t ds ms x N := fun L M X σ H hS hA hx hθ D n =>
  h L M σ H hS hA D (fun σ' H' ds' ms' w s a p => n σ' H' ds' ms' x X M (.of w) s a hx (st x X M M H H' (hA.wk w) (hid_same hA hx w) hθ) p) (fun _ _ _ _ _ _ z => z.elim) (fun _ _ _ _ _ _ _ z => z.elim) (fun _ _ _ _ _ _ _ z => z.elim)
theorem sh_next (h : N ds ms x) : SH K Θ tNext ds ms x N := fun L M X σ H hS hA hx hθ D n => n σ H ds ms x X M (.of (Wk.refl L H)) hS hA hx hθ h
theorem sh_seq (h : SH K Θ t ds ms x fun ds1 ms1 x1 => SH K Θ u ds1 ms1 x1 N) : SH K Θ (tSeq t u) ds ms x N := fun L M X σ H hS hA hx hθ D n =>
  h L M X σ H hS hA hx hθ { D with nx := u D } fun σ1 H1 ds1 ms1 x1 X1 M1 g s1 a1 hx1 hθ1 h1 => h1 L M1 X1 σ1 H1 s1 a1 hx1 hθ1 D fun σ2 H2 ds2 ms2 x2 X2 M2 g2 => n σ2 H2 ds2 ms2 x2 X2 M2 (g.trans g2)
theorem sh_if (st : HSt Θ) (h : ET K tt ds ms fun b ms1 => (b = true → SH K Θ t ds ms1 x N) ∧ (b = false → SH K Θ u ds ms1 x N)) : SH K Θ (tIfS tt t u) ds ms x N := fun L M X σ H hS hA hx hθ D n =>
  h L M σ H hS hA _ fun k H1 ms1 w a ⟨h1, h2⟩ => by
    have hθ1 := st x X M M H H1 (hA.wk w) (hid_same hA hx w) hθ
    cases k with
    | true => exact h1 rfl L M X σ H1 (hS.mono hA w) a hx hθ1 D fun σ2 H2 ds2 ms2 x2 X2 M2 g2 => n σ2 H2 ds2 ms2 x2 X2 M2 ((Gh.of w).trans g2)
    | false => exact h2 rfl L M X σ H1 (hS.mono hA w) a hx hθ1 D fun σ2 H2 ds2 ms2 x2 X2 M2 g2 => n σ2 H2 ds2 ms2 x2 X2 M2 ((Gh.of w).trans g2)
theorem sh_forT (st : HSt Θ) {g : TG} {js : List Nat} (h : E K tl ds ms fun s ms0 => ∃ es, s = .d (.tuple es) ∧ ∃ Pv : Nat → List SD → List MD → τ → Prop, Pv 0 ds ms0 x ∧
      (∀ i e ds1 ms1 x1, es[i]? = some e → Pv i ds1 ms1 x1 → EG K g js (.d e) ds1 ms1 fun ds2 ms2 => SH K Θ t ds2 ms2 x1 (Pv (i + 1))) ∧ ∀ ds1 ms1 x1, Pv es.length ds1 ms1 x1 → N ds1 ms1 x1) :
    SH K Θ (tFor (iTup K tl) g t) ds ms x N := fun L M X σ H hS hA hx hθ D n =>
  h L M σ H hS hA _ fun s v H1 ms0 w o ⟨es, es', Pv, h0, hs, hd⟩ => by
    subst es'
    obtain ⟨a1, z⟩ := o
    cases z with
    | @tup a xs _ na e rx =>
    have hθ1 := st x X M M H H1 (hA.wk w) (hid_same hA hx w) hθ
    have hq : ∀ {X' M' : List Addr} {H' : Hp}, Gh L X M H1 X' M' H' → SqT K H' a xs := fun g => SqT.of ((g.to a1.sub hx) a _ na e).2
    refine ⟨a, rfl, ⟨xs, hq (.of (Wk.refl L H1))⟩, for_tup (xs := xs) (fun i σ' H' => ∃ ds' ms' x' X' M', Gh L X M H1 X' M' H' ∧ Sl K L M' σ' H' ds' ∧ At L M' ms' H' ∧ HX L X' M' ∧ Θ x' X' M' H' ∧ Pv i ds' ms' x')
      ⟨ds, ms0, x, X, M, .of (Wk.refl L H1), hS.mono hA w, a1, hx, hθ1, h0⟩ (fun i σ' H' _ ⟨_, _, _, _, _, g, _⟩ => hq g) (fun i y σ' H' hi ⟨ds', ms', x', X', M', g, s', a', hx', hθ', p'⟩ => ?_) (fun σ' H' ⟨ds', ms', x', X', M', g, s', a', hx', hθ', p'⟩ => ?_)⟩
    · obtain ⟨e, e1, e2⟩ := rx.get' hi
      refine hs i e ds' ms' x' e1 p' L M' σ' H' y s' a' (Rp.to (g.to a1.sub hx) _ _ e2) _ fun σ2 ds2 s2 _ h2 => ?_
      exact h2 L M' X' σ2 H' s2 a' hx' hθ' _ fun σ3 H3 ds3 ms3 x3 X3 M3 g3 s3 a3 hx3 hθ3 p3 => ⟨ds3, ms3, x3, X3, M3, g.trans g3, s3, a3, hx3, hθ3, p3⟩
    · rw [rx.length] at p'
      exact n σ' H' ds' ms' x' X' M' ((Gh.of w).trans g) s' a' hx' hθ' (hd ds' ms' x' p')
end
/-! ### a dict of rows with lists that grow -/
def addT (k : List Key) (d : PyData) : List (List Key × List PyData) → List (List Key × List PyData)
  | [] => [(k, [d])]
  | e :: r => if e.1 = k then (e.1, e.2 ++ [d]) :: r else e :: addT k d r
inductive Lh (X M : List Addr) (H : Hp) (p : Addr) : List (List Key × V) → List (List Key × List PyData) → Prop
  | nil : Lh X M H p [] []
  | cons {k : List Key} {q : Addr} {xs : List V} {es : List PyData} {kvs : List (List Key × V)} {m : List (List Key × List PyData)} : q ∈ X → q ≠ p → H q = some (.lst xs) → RpA M H xs es → (∀ y ∈ kvs, y.2 ≠ .ref q) → Lh X M H p kvs m → Lh X M H p ((k, .ref q) :: kvs) ((k, es) :: m)
section
variable {X M X' M' : List Addr} {H H' : Hp} {p : Addr} {kvs : List (List Key × V)} {m : List (List Key × List PyData)}
theorem Lh.to (t : To M M' H H') (same : ∀ a ∈ X, a ≠ p → H' a = H a) (sub : ∀ a ∈ X, a ∈ X') (h : Lh X M H p kvs m) : Lh X' M' H' p kvs m := by
  induction h with
  | nil => exact .nil
  | cons a b c d e _ ih => exact .cons (sub _ a) b (by rw [same _ a b]; exact c) (RpA.to t _ _ d) e ih
theorem Lh.length (h : Lh X M H p kvs m) : kvs.length = m.length := by
  induction h with
  | nil => rfl
  | cons _ _ _ _ _ _ ih => exact congrArg (· + 1) ih
/-- one more at a key that is there -/
theorem Lh.more (h : Lh X M H p kvs m) {k : List Key} {v : V} (hv : valV kvs k = some v) : ∃ q xs es, v = .ref q ∧ q ∈ X ∧ q ≠ p ∧ H q = some (.lst xs) ∧ (k, es) ∈ m ∧ xs.length = es.length ∧ RpA M H xs es ∧ (∃ y ∈ kvs, y.2 = .ref q) ∧
    ∀ (H' : Hp) (M' : List Addr) (y : V) (d : PyData), To M M' H H' → (∀ a ∈ X, a ≠ q → a ≠ p → H' a = H a) → H' q = some (.lst (xs ++ [y])) → Rp M' H' y d → Lh X M' H' p kvs (addT k d m) := by
  induction h with
  | nil => cases hv
  | @cons k1 q1 xs1 es1 kvs1 m1 a b c d1 e f ih =>
    by_cases hk : k1 = k
    · rw [valV_pos hk] at hv
      cases hv
      refine ⟨q1, xs1, es1, rfl, a, b, c, by rw [hk]; exact List.mem_cons_self .., d1.length, d1, ⟨_, List.mem_cons_self .., rfl⟩, fun H' M' y d t same eq ry => ?_⟩
      have ea : addT k d ((k1, es1) :: m1) = (k1, es1 ++ [d]) :: m1 := if_pos hk
      rw [ea]
      have rest : ∀ {kvs2 : List (List Key × V)} {m2 : List (List Key × List PyData)}, (∀ y ∈ kvs2, y.2 ≠ .ref q1) → Lh X M H p kvs2 m2 → Lh X M' H' p kvs2 m2 := fun n l => by
        induction l with
        | nil => exact .nil
        | @cons k2 q2 xs2 es2 kvs3 m3 a2 b2 c2 d2 e2 _ ih2 =>
          have nq : q2 ≠ q1 := fun z => n _ (List.mem_cons_self ..) (by rw [z])
          exact .cons a2 b2 (by rw [same q2 a2 nq b2]; exact c2) (RpA.to t _ _ d2) e2 (ih2 fun y hy => n y (List.mem_cons_of_mem _ hy))
      exact .cons a b eq ((RpA.to t _ _ d1).append (.cons ry .nil)) e (rest e f)
    · rw [valV_neg hk] at hv
      obtain ⟨q, xs, es, h1, h2, h3, h4, h5, h6, h7, ⟨y0, hy0, ey0⟩, h8⟩ := ih hv
      refine ⟨q, xs, es, h1, h2, h3, h4, List.mem_cons_of_mem _ h5, h6, h7, ⟨y0, List.mem_cons_of_mem _ hy0, ey0⟩, fun H' M' y d t same eq ry => ?_⟩
      have ea : addT k d ((k1, es1) :: m1) = (k1, es1) :: addT k d m1 := if_neg hk
      have nq : q1 ≠ q := fun z => e y0 hy0 (by rw [ey0, z])
      rw [ea]
      exact .cons a b (by rw [same q1 a nq b]; exact c) (RpA.to t _ _ d1) e (h8 H' M' y d t same eq ry)
/-- a key that is new -/
theorem Lh.newk (h : Lh X M H p kvs m) {k : List Key} {y : V} {d : PyData} {b : Addr} (hv : valV kvs k = none) (t : To M M' H H') (same : ∀ a ∈ X, a ≠ p → H' a = H a) (sub : ∀ a ∈ X, a ∈ X') (nb : b ∉ X) (bX : b ∈ X') (bp : b ≠ p)
    (eb : H' b = some (.lst [y])) (ry : Rp M' H' y d) : Lh X' M' H' p (kvs ++ [(k, .ref b)]) (addT k d m) := by
  induction h with
  | nil => exact .cons bX bp eb (.cons ry .nil) nofun .nil
  | @cons k1 q1 xs1 es1 kvs1 m1 a b1 c d1 e f ih =>
    have hk : ¬ k1 = k := fun z => by rw [valV_pos z] at hv; cases hv
    rw [valV_neg hk] at hv
    have ea : addT k d ((k1, es1) :: m1) = (k1, es1) :: addT k d m1 := if_neg hk
    rw [ea]
    refine .cons (sub _ a) b1 (by rw [same _ a b1]; exact c) (RpA.to t _ _ d1) (fun z hz => ?_) (ih hv)
    rcases List.mem_append.mp hz with w | w
    · exact e z w
    · rw [List.mem_singleton.mp w]
      intro eq
      have eq := V.ref.inj eq
      exact nb (eq ▸ a)
end
def ΘL : HT (Addr × List (List Key × List PyData)) := fun x X M H => x.1 ∈ X ∧ ∃ kvs, H x.1 = some (.dT kvs) ∧ Lh X M H x.1 kvs x.2
theorem ΘL_st : HSt ΘL := fun x X M M' H H' t same ⟨h1, kvs, h2, h3⟩ => ⟨h1, kvs, by rw [same _ h1]; exact h2, h3.to t (fun a ha _ => same a ha) fun _ h => h⟩
theorem putT_end {kvs : List (List Key × V)} {k : List Key} {z : V} (h : valV kvs k = none) : putK kvs k z = kvs ++ [(k, z)] := by
  unfold putK
  rw [valV_any, h]
  rfl
section
variable {K : PySem.W.Frag} {t u : TS} {te tk : TE} {ds : List SD} {ms : List MD} {p : Addr} {m : List (List Key × List PyData)} {N : List SD → List MD → Addr × List (List Key × List PyData) → Prop} {P : Po}
/-- d.setdefault(k, []).append(x) -/
theorem sh_setapp {i : Nat} (hi : ds[i]? = some (.v (.ref p))) (hl : m.length < 10000) (he : ∀ e ∈ m, e.2.length < 10000) (h : E K tk ds ms fun y ms1 => ∃ key, dd y = .d (rowK key) ∧ E K te ds ms1 fun s ms2 => ∃ d, dd s = .d d ∧ N ds ms2 (p, addT key d m)) :
    SH K ΘL (tDrop (tBM K "list" rAppend (tSetR (tVar i) tk (tLst tNil)) (tCons te tNil))) ds ms (p, m) N := fun L M X σ H hS hA hx ⟨pX, kvs, ep, lv⟩ D n => by
  obtain ⟨v, ev, rfl⟩ := hS.get hi nofun
  have pM := hx.inM p pX
  have pL := hx.apart p pX
  refine ⟨_, ev, p, rfl, .inr ⟨kvs, .inl ep⟩, ?_⟩
  refine h L M σ H hS hA _ fun y z H2 ms1 w1 o1 ⟨key, ey, h1⟩ => ?_
  have oz := o1.sl
  rw [ey] at oz
  have a1 := o1.at
  obtain ⟨kb, rfl, ekb⟩ := row_key oz
  have same1 := hid_same hA hx w1
  have ep2 : H2 p = some (.dT kvs) := by rw [same1 p pX]; exact ep
  have lv2 : Lh X M H2 p kvs m := lv.to (hA.wk w1) (fun a ha _ => same1 a ha) fun _ h => h
  refine ⟨Nat.zero_le _, fun b hb => ?_⟩
  have bM := a1.fresh hb
  have bL := a1.freshL hb
  have bX : b ∉ X := fun z => bM (hx.inM b z)
  have bp : p ≠ b := fun z => bX (z ▸ pX)
  have kbb : kb ≠ b := ne_of_none ekb hb
  have b0 : H b = none := kd_none w1.kd hb
  have few : kvs.length < sizeLine := by rw [lv.length]; exact Nat.lt_trans hl (by decide)
  refine ⟨kvs, key, kb, by rw [upd_ne bp]; exact ep2, rfl, by rw [upd_ne kbb]; exact ekb, few, fun v hv => ?_, fun hv => ?_⟩
  · obtain ⟨q, xs, es, rfl, qX, qp, eq, hm, le, rx, _, more⟩ := lv2.more hv
    have qM := hx.inM q qX
    have qL := hx.apart q qX
    have qb : q ≠ b := ne_of_none eq hb
    have w3 : Wk L H2 (upd H2 b (.lst [])) := Wk.new hb
    have a3 : At L M ms1 (upd H2 b (.lst [])) := a1.new hb
    have e3 : upd H2 b (.lst []) q = some (.lst xs) := by rw [upd_ne qb]; exact eq
    refine ⟨.inl ⟨rfl, xs, SqL.of e3⟩, ?_⟩
    refine h1 L M σ _ ((hS.mono hA w1).mono a1 w3) a3 _ fun s y H4 ms2 w4 o4 ⟨d, ed, hn⟩ => ?_
    have a4 := o4.at
    have ry := o4.sl
    rw [ed] at ry
    have e4 : H4 q = some (.lst xs) := w4 q _ qL e3
    have few2 : xs.length < sizeLine := by rw [le]; exact Nat.lt_trans (he _ hm) (by decide)
    refine ⟨q, xs, y, rfl, rfl, e4, few2, ?_⟩
    have w14 : Wk L H H4 := (w1.trans w3).trans w4
    have gh : Gh L X M H X M (upd H4 q (.lst (xs ++ [y]))) := by
      refine ⟨fun a o nl nx e => ?_, fun a o e => ?_, fun _ h => h, fun _ h => .inl h, fun _ h => h, fun _ h => .inl h⟩
      · rw [upd_ne (fun z : a = q => nx (by rw [z]; exact qX))]
        exact w14 a o nl e
      · obtain ⟨o', e', k'⟩ := w14.kd a o e
        by_cases z : a = q
        · subst z
          rw [e4] at e'
          cases e'
          exact ⟨_, upd_same, k'⟩
        · exact ⟨o', by rw [upd_ne z]; exact e', k'⟩
    have t24 : To M M H2 (upd H4 q (.lst (xs ++ [y]))) := fun a o na e => ⟨na, by
      rw [upd_ne (fun z : a = q => na (by rw [z]; exact qM))]
      exact (w3.trans w4) a o (fun z => na (hA.sub a z)) e⟩
    have t44 : To M M H4 (upd H4 q (.lst (xs ++ [y]))) := fun a o na e => ⟨na, by rw [upd_ne (fun z : a = q => na (by rw [z]; exact qM))]; exact e⟩
    have sameX : ∀ a ∈ X, H4 a = H2 a := fun a ha => by
      rw [hid_same a3 hx w4 a ha, upd_ne (fun z : a = b => bX (by rw [← z]; exact ha))]
    refine n σ _ ds ms2 (p, addT key d m) X M gh (hS.to (gh.to hA.sub hx) gh.kd fun _ _ e => e) (a4.hid qM qL e4 trivial) hx ⟨pX, kvs, ?_, more _ M y d t24 (fun a ha nq _ => ?_) upd_same (Rp.to t44 _ _ ry)⟩ hn
    · show upd H4 q (.lst (xs ++ [y])) p = _
      rw [upd_ne (Ne.symm qp), sameX p pX]
      exact ep2
    · rw [upd_ne nq]
      exact sameX a ha
  · rw [putT_end hv]
    have a3 : At L (M ++ [b]) ms1 (upd (upd H2 b (.lst [])) p (.dT (kvs ++ [(key, .ref b)]))) := (a1.hide (o := .lst []) hb trivial).hid (List.mem_append_left _ pM) pL (by rw [upd_ne bp]; exact ep2) trivial
    have bM' : b ∈ M ++ [b] := by simp
    have hx3 : HX L (X ++ [b]) (M ++ [b]) := ⟨fun a ha => (List.mem_append.mp ha).elim (fun z => List.mem_append_left _ (hx.inM a z)) fun z => by rw [List.mem_singleton.mp z]; exact bM', fun a ha => (List.mem_append.mp ha).elim (hx.apart a) fun z => by rw [List.mem_singleton.mp z]; exact bL⟩
    have e3 : upd (upd H2 b (.lst [])) p (.dT (kvs ++ [(key, .ref b)])) b = some (.lst []) := by rw [upd_ne (Ne.symm bp), upd_same]
    have g3 : Gh L X M H (X ++ [b]) (M ++ [b]) (upd (upd H2 b (.lst [])) p (.dT (kvs ++ [(key, .ref b)]))) := by
      refine ⟨fun a o nl nx e => ?_, fun a o e => ?_, fun _ h => List.mem_append_left _ h, fun a h => ?_, fun _ h => List.mem_append_left _ h, fun a h => ?_⟩
      · rw [upd_ne (fun z : a = p => nx (by rw [z]; exact pX)), upd_ne (ne_of_none e b0)]
        exact w1 a o nl e
      · obtain ⟨o', e', k'⟩ := w1.kd a o e
        by_cases z : a = p
        · subst z
          rw [ep2] at e'
          cases e'
          exact ⟨_, upd_same, k'⟩
        · exact ⟨o', by rw [upd_ne z, upd_ne (ne_of_none e b0)]; exact e', k'⟩
      · rcases List.mem_append.mp h with z | z
        · exact .inl z
        · exact .inr (by rw [List.mem_singleton.mp z]; exact b0)
      · rcases List.mem_append.mp h with z | z
        · exact .inl z
        · exact .inr (by rw [List.mem_singleton.mp z]; exact b0)
    refine ⟨.inl ⟨rfl, [], SqL.of e3⟩, ?_⟩
    refine h1 L (M ++ [b]) σ _ (hS.to (g3.to hA.sub hx) g3.kd fun _ _ e => e) a3 _ fun s y H4 ms2 w4 o4 ⟨d, ed, hn⟩ => ?_
    have a4 := o4.at
    have ry := o4.sl
    rw [ed] at ry
    have e4 : H4 b = some (.lst []) := w4 b _ bL e3
    refine ⟨b, [], y, rfl, rfl, e4, by decide, ?_⟩
    have g4 : Gh L (X ++ [b]) (M ++ [b]) H4 (X ++ [b]) (M ++ [b]) (upd H4 b (.lst ([] ++ [y]))) := by
      refine ⟨fun a o nl nx e => ?_, fun a o e => ?_, fun _ h => h, fun _ h => .inl h, fun _ h => h, fun _ h => .inl h⟩
      · rw [upd_ne (fun z : a = b => nx (by rw [z]; simp))]
        exact e
      · by_cases z : a = b
        · subst z
          rw [e4] at e
          cases e
          exact ⟨_, upd_same, rfl⟩
        · exact ⟨o, by rw [upd_ne z]; exact e, rfl⟩
    have gh := (g3.trans (.of w4)).trans g4
    have t44 : To (M ++ [b]) (M ++ [b]) H4 (upd H4 b (.lst ([] ++ [y]))) := fun a o na e => ⟨na, by rw [upd_ne (fun z : a = b => na (by rw [z]; exact bM'))]; exact e⟩
    have t25 : To M (M ++ [b]) H2 (upd H4 b (.lst ([] ++ [y]))) := fun a o na e => by
      have ab : a ≠ b := ne_of_none e hb
      refine ⟨fun z => (List.mem_append.mp z).elim na fun z => ab (List.mem_singleton.mp z), ?_⟩
      rw [upd_ne ab]
      exact w4 a o (fun z => na (hA.sub a z)) (by rw [upd_ne (fun z : a = p => na (by rw [z]; exact pM)), upd_ne ab]; exact e)
    have sameX : ∀ a ∈ X, a ≠ p → upd H4 b (.lst ([] ++ [y])) a = H2 a := fun a ha np => by
      have ab : a ≠ b := fun z : a = b => bX (by rw [← z]; exact ha)
      rw [upd_ne ab, hid_same a3 hx3 w4 a (List.mem_append_left _ ha), upd_ne np, upd_ne ab]
    refine n σ _ ds ms2 (p, addT key d m) (X ++ [b]) (M ++ [b]) gh (hS.to (gh.to hA.sub hx) gh.kd fun _ _ e => e) (a4.hid bM' bL e4 trivial) hx3 ⟨List.mem_append_left _ pX, kvs ++ [(key, .ref b)], ?_, lv2.newk hv t25 sameX (fun _ h => List.mem_append_left _ h) bX (by simp) (Ne.symm bp) upd_same (Rp.to t44 _ _ ry)⟩ hn
    show upd H4 b (.lst ([] ++ [y])) p = _
    rw [upd_ne bp, hid_same a3 hx3 w4 p (List.mem_append_left _ pX), upd_same]
/-- `x = {}`, a statement by which it grows, and then it is locked -/
theorem s_hidL {i : Nat} (h : ∀ p, SH K ΘL t (ds.set i (.v (.ref p))) ms (p, []) fun ds' ms' x' => x'.1 = p ∧ ds'[i]? = some (.v (.ref p)) ∧ S K u (ds'.set i (.w (isZ (x'.2.map fun e => (e.1, .list e.2))))) ms' P) :
    S K (tSeq (tAsg tDNewT (gName i)) (tSeq (tLkA t) u)) ds ms P := fun L M σ H hS hA D n r b c p hp => by
  have np := hA.fresh hp
  have npL := hA.freshL hp
  have w : Wk L H (upd H p (.dT [])) := Wk.new hp
  have hS1 : Sl K L (M ++ [p]) (σ.set i (some (.ref p))) (upd H p (.dT [])) (ds.set i (.v (.ref p))) := (hS.to (to_new hA hp w) w.kd fun _ _ e => e).set i rfl
  have hx1 : HX L [p] (M ++ [p]) := ⟨fun a ha => List.mem_append_right _ ha, fun a ha => by rw [List.mem_singleton.mp ha]; exact npL⟩
  refine h p L (M ++ [p]) [p] _ _ hS1 (hA.hide hp trivial) hx1 ⟨by simp, [], upd_same, .nil⟩ _ ?_
  rintro σ' H' ds' ms' ⟨p', m'⟩ X' M' g s' a' hx' ⟨pX, kvs, ep, lv⟩ ⟨e1, hi, h1⟩
  have e1 : p' = p := e1
  subst e1
  have ep : H' p' = some (.dT kvs) := ep
  have pX : p' ∈ X' := pX
  have lv : Lh X' M' H' p' kvs m' := lv
  refine ⟨p', kvs, ep, fun od => ?_⟩
  have pM' := hx'.inM p' pX
  have a2 : At L M ms' (upd H' p' (.frz od (.dT kvs))) := (a'.hid (o := .frz od (.dT kvs)) pM' (hx'.apart p' pX) ep trivial).less (fun a ha => g.sub a (List.mem_append_left _ ha)) hA.sub
  have t2 : To M' M H' (upd H' p' (.frz od (.dT kvs))) := fun a o na e => ⟨fun z => na (g.sub a (List.mem_append_left _ z)), by rw [upd_ne (fun z : a = p' => na (by rw [z]; exact pM'))]; exact e⟩
  have kd2 : ∀ a o, H' a = some o → ∃ o', upd H' p' (.frz od (.dT kvs)) a = some o' ∧ kindO o' = kindO o := fun a o e => by
    by_cases z : a = p'
    · subst z
      rw [ep] at e
      cases e
      exact ⟨_, upd_same, rfl⟩
    · exact ⟨o, by rw [upd_ne z]; exact e, rfl⟩
  have w2 : Wk L H (upd H' p' (.frz od (.dT kvs))) := by
    constructor
    · intro a o nl e
      have ap : a ≠ p' := ne_of_none e hp
      rw [upd_ne ap]
      exact g.st a o nl (fun z => ap (List.mem_singleton.mp z)) (by rw [upd_ne ap]; exact e)
    · intro a o e
      obtain ⟨o1, e1, k1⟩ := g.kd a o (by rw [upd_ne (ne_of_none e hp)]; exact e)
      obtain ⟨o2, e2, k2⟩ := kd2 a o1 e1
      exact ⟨o2, e2, k2.trans k1⟩
  have rt : Rt M (upd H' p' (.frz od (.dT kvs))) kvs (m'.map fun e => (e.1, .list e.2)) := by
    clear h1
    have go : ∀ {kvs2 : List (List Key × V)} {m2 : List (List Key × List PyData)}, Lh X' M' H' p' kvs2 m2 → Rt M (upd H' p' (.frz od (.dT kvs))) kvs2 (m2.map fun e => (e.1, .list e.2)) := fun l => by
      induction l with
      | nil => exact .nil
      | @cons k q xs es kvs3 m3 qX qp eq rx _ _ ih =>
        refine .cons (.lst ?_ (by rw [upd_ne qp]; exact eq) (RpA.to t2 _ _ rx)) ih
        rcases g.xnew q qX with z | z
        · exact absurd (List.mem_singleton.mp z) qp
        · rw [upd_ne qp] at z
          exact hA.fresh z
    exact go lv
  have s2 := s'.to t2 kd2 fun _ _ e => e
  obtain ⟨v, ev, rfl⟩ := s'.get hi nofun
  have s3 := s2.set i (v := .ref p') (s := .w (isZ (m'.map fun e => (e.1, .list e.2)))) ⟨⟨p', od, kvs, rfl, np, upd_same, rt⟩, isZ_stb⟩
  have eσ : σ'.set i (some (.ref p')) = σ' := by
    apply List.ext_getElem?
    intro j
    by_cases hj : j = i
    · subst hj
      rw [List.getElem?_set_self (List.getElem?_eq_some_iff.mp ev).1, ev]
    · rw [List.getElem?_set_ne (Ne.symm hj)]
  rw [eσ] at s3
  exact h1 L M σ' _ s3 a2 D (n.on w2) (r.on a2 w2) (b.on w2) (c.on w2)
end
end Hc

namespace K64
open PySem PySem.Spec PyProof.Rows L2 Hc
def topS (i : Nat) : Stmt := PySem.Challenge.pw_heavycut_k64_glued_and_led_back.main.body.getD i (.Pass ⟨0, 0, 0, 0⟩)
def blt : List Str := ["bool", "isinstance", "int", "tuple", "list", "len", "abs", "zip", "max", "min", "sorted", "all", "range", "enumerate", "ValueError"]
structure Cls (K : PySem.W.Frag) (mg : Str → Option Value) (C_CutError C_NoWeb C_NoSide C_NoWishes C_TooGreat : Addr) : Prop where
  g_CutError : mg "CutError" = some (.ref C_CutError)
  g_NoWeb : mg "NoWeb" = some (.ref C_NoWeb)
  g_NoSide : mg "NoSide" = some (.ref C_NoSide)
  g_NoWishes : mg "NoWishes" = some (.ref C_NoWishes)
  g_TooGreat : mg "TooGreat" = some (.ref C_TooGreat)
  er_NoSide : Er K mg "NoSide" C_NoSide
  k_NoSide_CutError : PySem.W.kitOne K (.ref C_NoSide) (.ref C_CutError) = some true
  n_NoSide_NoWeb : PySem.W.kitOne K (.ref C_NoSide) (.ref C_NoWeb) = some false
  n_NoSide_NoWishes : PySem.W.kitOne K (.ref C_NoSide) (.ref C_NoWishes) = some false
  n_NoSide_TooGreat : PySem.W.kitOne K (.ref C_NoSide) (.ref C_TooGreat) = some false
  m_NoSide : PySem.W.exmOne K (.ref C_NoSide) (.ref C_CutError) = some true
  k_NoSide_ValueError : PySem.W.kitOne K (.ref C_NoSide) (.type "ValueError") = some true
  er_NoWeb : Er K mg "NoWeb" C_NoWeb
  k_NoWeb_CutError : PySem.W.kitOne K (.ref C_NoWeb) (.ref C_CutError) = some true
  n_NoWeb_NoSide : PySem.W.kitOne K (.ref C_NoWeb) (.ref C_NoSide) = some false
  n_NoWeb_NoWishes : PySem.W.kitOne K (.ref C_NoWeb) (.ref C_NoWishes) = some false
  n_NoWeb_TooGreat : PySem.W.kitOne K (.ref C_NoWeb) (.ref C_TooGreat) = some false
  m_NoWeb : PySem.W.exmOne K (.ref C_NoWeb) (.ref C_CutError) = some true
  k_NoWeb_ValueError : PySem.W.kitOne K (.ref C_NoWeb) (.type "ValueError") = some true
  er_NoWishes : Er K mg "NoWishes" C_NoWishes
  k_NoWishes_CutError : PySem.W.kitOne K (.ref C_NoWishes) (.ref C_CutError) = some true
  n_NoWishes_NoWeb : PySem.W.kitOne K (.ref C_NoWishes) (.ref C_NoWeb) = some false
  n_NoWishes_NoSide : PySem.W.kitOne K (.ref C_NoWishes) (.ref C_NoSide) = some false
  n_NoWishes_TooGreat : PySem.W.kitOne K (.ref C_NoWishes) (.ref C_TooGreat) = some false
  m_NoWishes : PySem.W.exmOne K (.ref C_NoWishes) (.ref C_CutError) = some true
  k_NoWishes_ValueError : PySem.W.kitOne K (.ref C_NoWishes) (.type "ValueError") = some true
  er_TooGreat : Er K mg "TooGreat" C_TooGreat
  k_TooGreat_CutError : PySem.W.kitOne K (.ref C_TooGreat) (.ref C_CutError) = some true
  n_TooGreat_NoWeb : PySem.W.kitOne K (.ref C_TooGreat) (.ref C_NoWeb) = some false
  n_TooGreat_NoSide : PySem.W.kitOne K (.ref C_TooGreat) (.ref C_NoSide) = some false
  n_TooGreat_NoWishes : PySem.W.kitOne K (.ref C_TooGreat) (.ref C_NoWishes) = some false
  m_TooGreat : PySem.W.exmOne K (.ref C_TooGreat) (.ref C_CutError) = some true
  k_TooGreat_ValueError : PySem.W.kitOne K (.ref C_TooGreat) (.type "ValueError") = some true
abbrev s_is_whole : Stmt := topS 7
theorem sc_is_whole : FnScope ["thing"] ["thing"] (defScope s_is_whole) := ⟨rfl, rfl, rfl, by decide +kernel, rfl, by decide +kernel, by decide +kernel⟩
abbrev s_is_row : Stmt := topS 8
theorem sc_is_row : FnScope ["thing"] ["thing"] (defScope s_is_row) := ⟨rfl, rfl, rfl, by decide +kernel, rfl, by decide +kernel, by decide +kernel⟩
abbrev s_is_triple : Stmt := topS 9
theorem sc_is_triple : FnScope ["thing"] ["thing"] (defScope s_is_triple) := ⟨rfl, rfl, rfl, by decide +kernel, rfl, by decide +kernel, by decide +kernel⟩
abbrev s_is_number_of : Stmt := topS 10
theorem sc_is_number_of : FnScope ["many", "thing"] ["many", "thing"] (defScope s_is_number_of) := ⟨rfl, rfl, rfl, by decide +kernel, rfl, by decide +kernel, by decide +kernel⟩
abbrev s_are_unlike_points : Stmt := topS 11
theorem sc_are_unlike_points : FnScope ["many", "one", "other"] ["many", "one", "other"] (defScope s_are_unlike_points) := ⟨rfl, rfl, rfl, by decide +kernel, rfl, by decide +kernel, by decide +kernel⟩
abbrev s_common_divisor : Stmt := topS 13
theorem sc_common_divisor : FnScope ["one", "other"] ["one", "other"] (defScope s_common_divisor) := ⟨rfl, rfl, rfl, by decide +kernel, rfl, by decide +kernel, by decide +kernel⟩
abbrev s_is_fraction : Stmt := topS 14
theorem sc_is_fraction : FnScope ["thing", "top", "bottom"] ["thing"] (defScope s_is_fraction) := ⟨rfl, rfl, rfl, by decide +kernel, rfl, by decide +kernel, by decide +kernel⟩
abbrev s_as_fraction : Stmt := topS 15
theorem sc_as_fraction : FnScope ["top", "bottom", "divisor"] ["top", "bottom"] (defScope s_as_fraction) := ⟨rfl, rfl, rfl, by decide +kernel, rfl, by decide +kernel, by decide +kernel⟩
abbrev s_plus : Stmt := topS 16
theorem sc_plus : FnScope ["one", "other"] ["one", "other"] (defScope s_plus) := ⟨rfl, rfl, rfl, by decide +kernel, rfl, by decide +kernel, by decide +kernel⟩
abbrev s_added : Stmt := topS 17
theorem sc_added : FnScope ["terms", "sums", "alone", "one", "other"] ["terms"] (defScope s_added) := ⟨rfl, rfl, rfl, by decide +kernel, rfl, by decide +kernel, by decide +kernel⟩
abbrev s_is_weight : Stmt := topS 23
theorem sc_is_weight : FnScope ["thing"] ["thing"] (defScope s_is_weight) := ⟨rfl, rfl, rfl, by decide +kernel, rfl, by decide +kernel, by decide +kernel⟩
abbrev s_told_tie : Stmt := topS 24
theorem sc_told_tie : FnScope ["many", "thing", "one", "other", "weight"] ["many", "thing"] (defScope s_told_tie) := ⟨rfl, rfl, rfl, by decide +kernel, rfl, by decide +kernel, by decide +kernel⟩
abbrev s_made_web : Stmt := topS 25
theorem sc_made_web : FnScope ["many", "ties", "told", "thing", "tie", "following"] ["many", "ties"] (defScope s_made_web) := ⟨rfl, rfl, rfl, by decide +kernel, rfl, by decide +kernel, by decide +kernel⟩
abbrev s_made_side : Stmt := topS 27
theorem sc_made_side : FnScope ["web", "bits", "bit"] ["web", "bits"] (defScope s_made_side) := ⟨rfl, rfl, rfl, by decide +kernel, rfl, by decide +kernel, by decide +kernel⟩
abbrev s_side_of_bits : Stmt := topS 28
theorem sc_side_of_bits : FnScope ["web", "groups", "marks", "bits", "group", "mark"] ["web", "groups", "marks", "bits"] (defScope s_side_of_bits) := ⟨rfl, rfl, rfl, by decide +kernel, rfl, by decide +kernel, by decide +kernel⟩
abbrev s_joins_at : Stmt := topS 30
theorem sc_joins_at : FnScope ["many", "joins", "near", "point", "number", "one", "other", "apart"] ["many", "joins"] (defScope s_joins_at) := ⟨rfl, rfl, rfl, by decide +kernel, rfl, by decide +kernel, by decide +kernel⟩
abbrev s_group_from : Stmt := topS 31
theorem sc_group_from : FnScope ["near", "first", "found", "waiting", "point", "mark", "way", "number", "other", "apart"] ["near", "first"] (defScope s_group_from) := ⟨rfl, rfl, rfl, by decide +kernel, rfl, by decide +kernel, by decide +kernel⟩
abbrev s_spread : Stmt := topS 32
theorem sc_spread : FnScope ["many", "joins", "near", "groups", "marks", "ways", "count", "first", "point", "mark", "way"] ["many", "joins"] (defScope s_spread) := ⟨rfl, rfl, rfl, by decide +kernel, rfl, by decide +kernel, by decide +kernel⟩
abbrev s_ring_closed : Stmt := topS 33
theorem sc_ring_closed : FnScope ["way", "other_way", "number", "alone", "step", "other_alone"] ["way", "other_way", "number"] (defScope s_ring_closed) := ⟨rfl, rfl, rfl, by decide +kernel, rfl, by decide +kernel, by decide +kernel⟩
abbrev s_odd_rings : Stmt := topS 34
theorem sc_odd_rings : FnScope ["joins", "marks", "ways", "rings", "number", "one", "other", "apart"] ["joins", "marks", "ways"] (defScope s_odd_rings) := ⟨rfl, rfl, rfl, by decide +kernel, rfl, by decide +kernel, by decide +kernel⟩
abbrev s_parted : Stmt := topS 35
theorem sc_parted : FnScope ["many", "joins", "groups", "marks", "ways", "rings", "point"] ["many", "joins"] (defScope s_parted) := ⟨rfl, rfl, rfl, by decide +kernel, rfl, by decide +kernel, by decide +kernel⟩
abbrev s_is_wish : Stmt := topS 38
theorem sc_is_wish : FnScope ["web", "thing", "one", "other", "apart"] ["web", "thing"] (defScope s_is_wish) := ⟨rfl, rfl, rfl, by decide +kernel, rfl, by decide +kernel, by decide +kernel⟩
abbrev s_made_wishes : Stmt := topS 39
theorem sc_made_wishes : FnScope ["web", "thing", "wish"] ["web", "thing"] (defScope s_made_wishes) := ⟨rfl, rfl, rfl, by decide +kernel, rfl, by decide +kernel, by decide +kernel⟩
abbrev s_grouped : Stmt := topS 40
theorem sc_grouped : FnScope ["web", "wishes"] ["web", "wishes"] (defScope s_grouped) := ⟨rfl, rfl, rfl, by decide +kernel, rfl, by decide +kernel, by decide +kernel⟩
abbrev s_unlike_weights : Stmt := topS 42
theorem sc_unlike_weights : FnScope ["web", "marks", "one", "other", "weight"] ["web", "marks"] (defScope s_unlike_weights) := ⟨rfl, rfl, rfl, by decide +kernel, rfl, by decide +kernel, by decide +kernel⟩
abbrev s_terms_between : Stmt := topS 43
theorem sc_terms_between : FnScope ["web", "groups", "marks", "terms", "one", "other", "top", "bottom", "pair"] ["web", "groups", "marks"] (defScope s_terms_between) := ⟨rfl, rfl, rfl, by decide +kernel, rfl, by decide +kernel, by decide +kernel⟩
abbrev s_glued : Stmt := topS 44
theorem sc_glued : FnScope ["web", "wishes", "told", "name", "groups", "marks", "ties", "one", "other", "terms", "weight"] ["web", "wishes"] (defScope s_glued) := ⟨rfl, rfl, rfl, by decide +kernel, rfl, by decide +kernel, by decide +kernel⟩
abbrev s_led_back : Stmt := topS 45
theorem sc_led_back : FnScope ["web", "wishes", "side", "told"] ["web", "wishes", "side"] (defScope s_led_back) := ⟨rfl, rfl, rfl, by decide +kernel, rfl, by decide +kernel, by decide +kernel⟩
abbrev s__law_cell_at : Stmt := topS 47
theorem sc__law_cell_at : FnScope ["_law_script", "_law_k"] ["_law_script", "_law_k"] (defScope s__law_cell_at) := ⟨rfl, rfl, rfl, by decide +kernel, rfl, by decide +kernel, by decide +kernel⟩
abbrev s__law_stream : Stmt := topS 48
theorem sc__law_stream : FnScope ["_law_cell", "_law_many", "_law_digits", "_law_left", "_law_k", "_law_found", "_law_number", "_law_other"] ["_law_cell", "_law_many"] (defScope s__law_stream) := ⟨rfl, rfl, rfl, by decide +kernel, rfl, by decide +kernel, by decide +kernel⟩
abbrev s__law_take : Stmt := topS 49
theorem sc__law_take : FnScope ["_law_xs"] ["_law_xs"] (defScope s__law_take) := ⟨rfl, rfl, rfl, by decide +kernel, rfl, by decide +kernel, by decide +kernel⟩
abbrev s__law_reduced : Stmt := topS 50
theorem sc__law_reduced : FnScope ["_law_top", "_law_bottom", "_law_one", "_law_other"] ["_law_top", "_law_bottom"] (defScope s__law_reduced) := ⟨rfl, rfl, rfl, by decide +kernel, rfl, by decide +kernel, by decide +kernel⟩
abbrev s__law_weight : Stmt := topS 51
theorem sc__law_weight : FnScope ["_law_number", "_law_way", "_law_far"] ["_law_number"] (defScope s__law_weight) := ⟨rfl, rfl, rfl, by decide +kernel, rfl, by decide +kernel, by decide +kernel⟩
abbrev s__law_web : Stmt := topS 52
theorem sc__law_web : FnScope ["_law_xs", "_law_most", "_law_many", "_law_share", "_law_ties", "_law_a", "_law_b", "_law_number"] ["_law_xs", "_law_most"] (defScope s__law_web) := ⟨rfl, rfl, rfl, by decide +kernel, rfl, by decide +kernel, by decide +kernel⟩
abbrev s__law_groups : Stmt := topS 53
theorem sc__law_groups : FnScope ["_law_many", "_law_wishes_here", "_law_groups_here", "_law_point", "_law_marks", "_law_count", "_law_first", "_law_waiting", "_law_a", "_law_b", "_law_apart", "_law_one", "_law_other", "_law_mark"] ["_law_many", "_law_wishes_here"] (defScope s__law_groups) := ⟨rfl, rfl, rfl, by decide +kernel, rfl, by decide +kernel, by decide +kernel⟩
abbrev s__law_wishes : Stmt := topS 54
theorem sc__law_wishes : FnScope ["_law_many", "_law_xs", "_law_wishes_here", "_law_hidden", "_law_k", "_law_number", "_law_a", "_law_b", "_law_apart"] ["_law_many", "_law_xs"] (defScope s__law_wishes) := ⟨rfl, rfl, rfl, by decide +kernel, rfl, by decide +kernel, by decide +kernel⟩
abbrev s__law_plus : Stmt := topS 55
theorem sc__law_plus : FnScope ["_law_one", "_law_other"] ["_law_one", "_law_other"] (defScope s__law_plus) := ⟨rfl, rfl, rfl, by decide +kernel, rfl, by decide +kernel, by decide +kernel⟩
abbrev s__law_weight_of : Stmt := topS 57
theorem sc__law_weight_of : FnScope ["_law_web_here", "_law_bits", "_law_total", "_law_a", "_law_b", "_law_weight_here"] ["_law_web_here", "_law_bits"] (defScope s__law_weight_of) := ⟨rfl, rfl, rfl, by decide +kernel, rfl, by decide +kernel, by decide +kernel⟩
abbrev s__law_due : Stmt := topS 58
theorem sc__law_due : FnScope ["_law_web_here", "_law_groups_here", "_law_marks", "_law_sums", "_law_outside", "_law_a", "_law_b", "_law_weight_here", "_law_pair", "_law_share", "_law_ties"] ["_law_web_here", "_law_groups_here", "_law_marks"] (defScope s__law_due) := ⟨rfl, rfl, rfl, by decide +kernel, rfl, by decide +kernel, by decide +kernel⟩
abbrev s__law_may_be : Stmt := topS 59
theorem sc__law_may_be : FnScope ["_law_web_here", "_law_tie"] ["_law_web_here"] (defScope s__law_may_be) := ⟨rfl, rfl, rfl, by decide +kernel, rfl, by decide +kernel, by decide +kernel⟩
abbrev s__law_caught : Stmt := topS 60
theorem sc__law_caught : FnScope ["_law_web_here", "_law_wishes_here", "error"] ["_law_web_here", "_law_wishes_here"] (defScope s__law_caught) := ⟨rfl, rfl, rfl, by decide +kernel, rfl, by decide +kernel, by decide +kernel⟩
abbrev s__law_refused : Stmt := topS 61
theorem sc__law_refused : FnScope ["_law_web_here", "_law_wishes_here", "_law_caught_here"] ["_law_web_here", "_law_wishes_here"] (defScope s__law_refused) := ⟨rfl, rfl, rfl, by decide +kernel, rfl, by decide +kernel, by decide +kernel⟩
abbrev s__law_led : Stmt := topS 62
theorem sc__law_led : FnScope ["_law_web_here", "_law_wishes_here", "_law_groups_here", "_law_marks", "_law_due_here", "_law_side", "_law_found", "_law_bits", "_law_point", "_law_a", "_law_b", "_law_apart"] ["_law_web_here", "_law_wishes_here", "_law_groups_here", "_law_marks", "_law_due_here", "_law_side"] (defScope s__law_led) := ⟨rfl, rfl, rfl, by decide +kernel, rfl, by decide +kernel, by decide +kernel⟩
abbrev s__law_right : Stmt := topS 63
theorem sc__law_right : FnScope ["_law_web_here", "_law_wishes_here", "_law_known", "_law_groups_here", "_law_marks", "_law_due_here", "_law_many", "_law_found", "_law_wish", "_law_number", "_law_side", "_law_k"] ["_law_web_here", "_law_wishes_here"] (defScope s__law_right) := ⟨rfl, rfl, rfl, by decide +kernel, rfl, by decide +kernel, by decide +kernel⟩
abbrev s__law_wrong_wishes : Stmt := topS 64
theorem sc__law_wrong_wishes : FnScope ["_law_many", "_law_rows"] ["_law_many"] (defScope s__law_wrong_wishes) := ⟨rfl, rfl, rfl, by decide +kernel, rfl, by decide +kernel, by decide +kernel⟩
abbrev s_law : Stmt := topS 65
theorem sc_law : FnScope ["_law_script", "_law_k", "_law_xs", "_law_web_here", "_law_wishes_here", "_law_kept", "_law_thing", "_law_far", "_law_great", "_law_fine", "_law_some", "_law_odd"] ["_law_script"] (defScope s_law) := ⟨rfl, rfl, rfl, by decide +kernel, rfl, by decide +kernel, by decide +kernel⟩
structure Csts (mg : Str → Option Value) : Prop where
  c_MOST_POINTS : ∃ t, mg "MOST_POINTS" = some (.int 60 t)
  c_MOST_TIES : ∃ t, mg "MOST_TIES" = some (.int 170 t)
  c_MOST_TOP : ∃ t, mg "MOST_TOP" = some (.int 1000000000 t)
  c_MOST_BOTTOM : ∃ t, mg "MOST_BOTTOM" = some (.int 1000 t)
  c_MOST_WISHES : ∃ t, mg "MOST_WISHES" = some (.int 120 t)
section
variable {Pg : Program} {w : World} {K : PySem.W.Frag} {mg : Str → Option Value} {base : Heap}
def t_is_whole (K : PySem.W.Frag) : TS := (tRet (tAndV (tCB (rIsi K) (tCons (tVar 0) (tCons (tC (.ty "int")) tNil))) (tNotV (tCB (rIsi K) (tCons (tVar 0) (tCons (tC (.ty "bool")) tNil))))))
theorem dv_is_whole {f : Addr} {cdv : Value} {A : Around} {outer : List Env} {s : Shared} {H : Hp} {E : XK} (hr : Room 0 (A.deeper (envOfC "is_whole" (defScope s_is_whole) s.heap.objs.size f cdv))) (B : ∀ x, x ∈ blt → mg x = none) (cs : Csts mg) :
    PSs (cxOf CX0 Pg w K mg base ["thing"] "is_whole" (defScope s_is_whole) f cdv A outer s H E).nox (defBody s_is_whole) (t_is_whole K) :=
  (pss_one (ps_ret (pe_and (pe_callB call_isi (by rfl) (B "isinstance" (by decide)) (by decide +kernel) (pa_cons (pv 0) (pa_cons (pe_bltn (by rfl) (B "int" (by decide)) (by decide +kernel) rfl) pa_nil))) (pe_one (pe_not (pe_callB call_isi (by rfl) (B "isinstance" (by decide)) (by decide +kernel) (pa_cons (pv 0) (pa_cons (pe_bltn (by rfl) (B "bool" (by decide)) (by decide +kernel) rfl) pa_nil))))))))
def t_is_row (K : PySem.W.Frag) : TS := (tRet (tCB (rIsiT K) (tCons (tVar 0) (tCons (tTup (tCons (tC (.ty "list")) (tCons (tC (.ty "tuple")) tNil))) tNil))))
theorem dv_is_row {f : Addr} {cdv : Value} {A : Around} {outer : List Env} {s : Shared} {H : Hp} {E : XK} (hr : Room 0 (A.deeper (envOfC "is_row" (defScope s_is_row) s.heap.objs.size f cdv))) (B : ∀ x, x ∈ blt → mg x = none) (cs : Csts mg) :
    PSs (cxOf CX0 Pg w K mg base ["thing"] "is_row" (defScope s_is_row) f cdv A outer s H E).nox (defBody s_is_row) (t_is_row K) :=
  (pss_one (ps_ret (pe_callB call_isiT (by rfl) (B "isinstance" (by decide)) (by decide +kernel) (pa_cons (pv 0) (pa_cons (pe_tup (pa_cons (pe_bltn (by rfl) (B "list" (by decide)) (by decide +kernel) rfl) (pa_cons (pe_bltn (by rfl) (B "tuple" (by decide)) (by decide +kernel) rfl) pa_nil))) pa_nil)))))
def t_is_triple (K : PySem.W.Frag) (Φ_is_row : Ph) : TS := (tRet (tAndV (tCall (SpD K Φ_is_row) [] E0 (tCons (tVar 0) tNil)) (tOp (rEqD K) (tCB (rLenQ K) (tCons (tVar 0) tNil)) (tC (.int 3)))))
theorem dv_is_triple {f : Addr} {cdv : Value} {A : Around} {outer : List Env} {s : Shared} {H : Hp} {E : XK} (hr : Room 1 (A.deeper (envOfC "is_triple" (defScope s_is_triple) s.heap.objs.size f cdv))) (B : ∀ x, x ∈ blt → mg x = none) (cs : Csts mg) {Φ_is_row : Ph} (g_is_row : Kn Pg w K mg base "is_row" 1 ["thing"] Φ_is_row) :
    PSs (cxOf CX0 Pg w K mg base ["thing"] "is_triple" (defScope s_is_triple) f cdv A outer s H E).nox (defBody s_is_triple) (t_is_triple K Φ_is_row) :=
  (pss_one (ps_ret (pe_and (pe_callD g_is_row (hr.mono (by decide)) (by rfl) (pa_cons (pv 0) pa_nil)) (pe_one (pe_cmpR (op_eqD hr.units) (pe_callB call_len_seq (by rfl) (B "len" (by decide)) (by decide +kernel) (pa_cons (pv 0) pa_nil)) pe_int (nomark _))))))
def t_is_number_of (K : PySem.W.Frag) (Φ_is_whole : Ph) : TS := (tRet (tAndV (tCall (SpD K Φ_is_whole) [] E0 (tCons (tVar 1) tNil)) (tChain rLeI rLtI (tC (.int 0)) (tVar 1) (tVar 0))))
theorem dv_is_number_of {f : Addr} {cdv : Value} {A : Around} {outer : List Env} {s : Shared} {H : Hp} {E : XK} (hr : Room 1 (A.deeper (envOfC "is_number_of" (defScope s_is_number_of) s.heap.objs.size f cdv))) (B : ∀ x, x ∈ blt → mg x = none) (cs : Csts mg) {Φ_is_whole : Ph} (g_is_whole : Kn Pg w K mg base "is_whole" 1 ["thing"] Φ_is_whole) :
    PSs (cxOf CX0 Pg w K mg base ["many", "thing"] "is_number_of" (defScope s_is_number_of) f cdv A outer s H E).nox (defBody s_is_number_of) (t_is_number_of K Φ_is_whole) :=
  (pss_one (ps_ret (pe_and (pe_callD g_is_whole (hr.mono (by decide)) (by rfl) (pa_cons (pv 1) pa_nil)) (pe_one (pe_chain op_le op_lt pe_int (pv 1) (pv 0))))))
def t_are_unlike_points (K : PySem.W.Frag) (Φ_is_number_of : Ph) : TS := (tRet (tAndV (tCall (SpD K Φ_is_number_of) [] E0 (tCons (tVar 0) (tCons (tVar 1) tNil))) (tAndV (tCall (SpD K Φ_is_number_of) [] E0 (tCons (tVar 0) (tCons (tVar 2) tNil))) (tOp (rNeD K) (tVar 1) (tVar 2)))))
theorem dv_are_unlike_points {f : Addr} {cdv : Value} {A : Around} {outer : List Env} {s : Shared} {H : Hp} {E : XK} (hr : Room 2 (A.deeper (envOfC "are_unlike_points" (defScope s_are_unlike_points) s.heap.objs.size f cdv))) (B : ∀ x, x ∈ blt → mg x = none) (cs : Csts mg) {Φ_is_number_of : Ph} (g_is_number_of : Kn Pg w K mg base "is_number_of" 2 ["many", "thing"] Φ_is_number_of) :
    PSs (cxOf CX0 Pg w K mg base ["many", "one", "other"] "are_unlike_points" (defScope s_are_unlike_points) f cdv A outer s H E).nox (defBody s_are_unlike_points) (t_are_unlike_points K Φ_is_number_of) :=
  (pss_one (ps_ret (pe_and (pe_callD g_is_number_of (hr.mono (by decide)) (by rfl) (pa_cons (pv 0) (pa_cons (pv 1) pa_nil))) (pe_and (pe_callD g_is_number_of (hr.mono (by decide)) (by rfl) (pa_cons (pv 0) (pa_cons (pv 2) pa_nil))) (pe_one (pe_cmpR (op_neD hr.units) (pv 1) (pv 2) (nomark _)))))))
def t_common_divisor (K : PySem.W.Frag) : TS := (tSeq (tPar 0 1 (tCons (tCB rAbs (tCons (tVar 0) tNil)) (tCons (tCB rAbs (tCons (tVar 1) tNil)) tNil)))
    (tSeq (tWhile (tTest (tOp (rNeD K) (tVar 1) (tC (.int 0)))) (tPar 0 1 (tCons (tVar 1) (tCons (tOp rModN (tVar 0) (tVar 1)) tNil))))
    (tRet (tVar 0))))
theorem dv_common_divisor {f : Addr} {cdv : Value} {A : Around} {outer : List Env} {s : Shared} {H : Hp} {E : XK} (hr : Room 0 (A.deeper (envOfC "common_divisor" (defScope s_common_divisor) s.heap.objs.size f cdv))) (B : ∀ x, x ∈ blt → mg x = none) (cs : Csts mg) :
    PSs (cxOf CX0 Pg w K mg base ["one", "other"] "common_divisor" (defScope s_common_divisor) f cdv A outer s H E).nox (defBody s_common_divisor) (t_common_divisor K) :=
  (pss_cons (ps_par (by rfl) sc_common_divisor.nd (i := 0) (j := 1) rfl rfl (by decide) rfl rfl (pa_cons (pe_callB call_abs (by rfl) (B "abs" (by decide)) (by decide +kernel) (pa_cons (pv 0) pa_nil)) (pa_cons (pe_callB call_abs (by rfl) (B "abs" (by decide)) (by decide +kernel) (pa_cons (pv 1) pa_nil)) pa_nil)) (by rfl))
      (pss_cons (ps_while PassesOwn.never (pt_cmpR (op_neD hr.units) (pv 1) pe_int (nomark _)) (pss_one (ps_par (by rfl) sc_common_divisor.nd (i := 0) (j := 1) rfl rfl (by decide) rfl rfl (pa_cons (pv 1) (pa_cons (pe_op op_modN (pv 0) (pv 1)) pa_nil)) (by rfl))))
      (pss_one (ps_ret (pv 0)))))
def t_is_fraction (K : PySem.W.Frag) (Φ_is_whole : Ph) (Φ_common_divisor : Ph) : TS := (tSeq (tIfS (tOr (tNot (L2.tB (tCB (rIsi K) (tCons (tVar 0) (tCons (tC (.ty "tuple")) tNil))))) (tTest (tOp (rNeD K) (tCB (rLenQ K) (tCons (tVar 0) tNil)) (tC (.int 2))))) (tRet (tC (.bl false))) tNext)
    (tSeq (tAsg (tVar 0) (gTup K 2 (gCons (gName 1) (gCons (gName 2) gNil))))
    (tSeq (tIfS (tOr (tNot (L2.tB (tCall (SpD K Φ_is_whole) [] E0 (tCons (tVar 1) tNil)))) (tNot (L2.tB (tCall (SpD K Φ_is_whole) [] E0 (tCons (tVar 2) tNil))))) (tRet (tC (.bl false))) tNext)
    (tRet (tAndV (tOp rGeI (tVar 2) (tC (.int 1))) (tOp (rEqD K) (tCall (SpD K Φ_common_divisor) [] E0 (tCons (tVar 1) (tCons (tVar 2) tNil))) (tC (.int 1))))))))
theorem dv_is_fraction {f : Addr} {cdv : Value} {A : Around} {outer : List Env} {s : Shared} {H : Hp} {E : XK} (hr : Room 1 (A.deeper (envOfC "is_fraction" (defScope s_is_fraction) s.heap.objs.size f cdv))) (B : ∀ x, x ∈ blt → mg x = none) (cs : Csts mg) {Φ_is_whole : Ph} {Φ_common_divisor : Ph} (g_is_whole : Kn Pg w K mg base "is_whole" 1 ["thing"] Φ_is_whole) (g_common_divisor : Kn Pg w K mg base "common_divisor" 1 ["one", "other"] Φ_common_divisor) :
    PSs (cxOf CX0 Pg w K mg base ["thing", "top", "bottom"] "is_fraction" (defScope s_is_fraction) f cdv A outer s H E).nox (defBody s_is_fraction) (t_is_fraction K Φ_is_whole Φ_common_divisor) :=
  (pss_cons (ps_if (PW.pt (pw_or (pt_not (pt_val (pe_callB call_isi (by rfl) (B "isinstance" (by decide)) (by decide +kernel) (pa_cons (pv 0) (pa_cons (pe_bltn (by rfl) (B "tuple" (by decide)) (by decide +kernel) rfl) pa_nil))))) (pw_or1 (pt_cmpR (op_neD hr.units) (pe_callB call_len_seq (by rfl) (B "len" (by decide)) (by decide +kernel) (pa_cons (pv 0) pa_nil)) pe_int (nomark _))))) (pss_one (ps_ret pe_bl)) pss_nil)
      (pss_cons (ps_asg (pv 0) (pg_tup rfl (pgs_cons (pg_name (i := 1) sc_is_fraction.nd rfl (by first | exact .inl rfl | exact .inr rfl)) (pgs_cons (pg_name (i := 2) sc_is_fraction.nd rfl (by first | exact .inl rfl | exact .inr rfl)) pgs_nil))))
      (pss_cons (ps_if (PW.pt (pw_or (pt_not (pt_val (pe_callD g_is_whole (hr.mono (by decide)) (by rfl) (pa_cons (pv 1) pa_nil)))) (pw_or1 (pt_not (pt_val (pe_callD g_is_whole (hr.mono (by decide)) (by rfl) (pa_cons (pv 2) pa_nil))))))) (pss_one (ps_ret pe_bl)) pss_nil)
      (pss_one (ps_ret (pe_and (pe_cmpR op_ge (pv 2) pe_int (nomark _)) (pe_one (pe_cmpR (op_eqD hr.units) (pe_callD g_common_divisor (hr.mono (by decide)) (by rfl) (pa_cons (pv 1) (pa_cons (pv 2) pa_nil))) pe_int (nomark _)))))))))
def t_as_fraction (K : PySem.W.Frag) (Φ_common_divisor : Ph) : TS := (tSeq (tAsg (tCall (SpD K Φ_common_divisor) [] E0 (tCons (tVar 0) (tCons (tVar 1) tNil))) (gName 2))
    (tSeq (tIfS (tTest (tOp rLtI (tVar 1) (tC (.int 0)))) (tAsg (tUn rNegI (tVar 2)) (gName 2)) tNext)
    (tRet (tTup (tCons (tOp rDivX (tVar 0) (tVar 2)) (tCons (tOp rDivX (tVar 1) (tVar 2)) tNil))))))
theorem dv_as_fraction {f : Addr} {cdv : Value} {A : Around} {outer : List Env} {s : Shared} {H : Hp} {E : XK} (hr : Room 1 (A.deeper (envOfC "as_fraction" (defScope s_as_fraction) s.heap.objs.size f cdv))) (B : ∀ x, x ∈ blt → mg x = none) (cs : Csts mg) {Φ_common_divisor : Ph} (g_common_divisor : Kn Pg w K mg base "common_divisor" 1 ["one", "other"] Φ_common_divisor) :
    PSs (cxOf CX0 Pg w K mg base ["top", "bottom", "divisor"] "as_fraction" (defScope s_as_fraction) f cdv A outer s H E).nox (defBody s_as_fraction) (t_as_fraction K Φ_common_divisor) :=
  (pss_cons (ps_set (i := 2) sc_as_fraction.nd rfl (by first | exact .inl rfl | exact .inr rfl) (pe_callD g_common_divisor (hr.mono (by decide)) (by rfl) (pa_cons (pv 0) (pa_cons (pv 1) pa_nil))))
      (pss_cons (ps_if (pt_cmpR op_lt (pv 1) pe_int (nomark _)) (pss_one (ps_set (i := 2) sc_as_fraction.nd rfl (by first | exact .inl rfl | exact .inr rfl) (pe_un un_neg (pv 2)))) pss_nil)
      (pss_one (ps_ret (pe_tup (pa_cons (pe_op op_fdivX (pv 0) (pv 2)) (pa_cons (pe_op op_fdivX (pv 1) (pv 2)) pa_nil)))))))
def t_plus (K : PySem.W.Frag) (Φ_as_fraction : Ph) : TS := (tRet (tCall (SpD K Φ_as_fraction) [] E0 (tCons (tOp rAddI (tOp rMulX (tOp (rIx K) (tVar 0) (tC (.int 0))) (tOp (rIx K) (tVar 1) (tC (.int 1)))) (tOp rMulX (tOp (rIx K) (tVar 1) (tC (.int 0))) (tOp (rIx K) (tVar 0) (tC (.int 1))))) (tCons (tOp rMulX (tOp (rIx K) (tVar 0) (tC (.int 1))) (tOp (rIx K) (tVar 1) (tC (.int 1)))) tNil))))
theorem dv_plus {f : Addr} {cdv : Value} {A : Around} {outer : List Env} {s : Shared} {H : Hp} {E : XK} (hr : Room 2 (A.deeper (envOfC "plus" (defScope s_plus) s.heap.objs.size f cdv))) (B : ∀ x, x ∈ blt → mg x = none) (cs : Csts mg) {Φ_as_fraction : Ph} (g_as_fraction : Kn Pg w K mg base "as_fraction" 2 ["top", "bottom"] Φ_as_fraction) :
    PSs (cxOf CX0 Pg w K mg base ["one", "other"] "plus" (defScope s_plus) f cdv A outer s H E).nox (defBody s_plus) (t_plus K Φ_as_fraction) :=
  (pss_one (ps_ret (pe_callD g_as_fraction (hr.mono (by decide)) (by rfl) (pa_cons (pe_op op_add (pe_op op_mulX (pe_ix ix_seq (pv 0) pe_int (fun _ _ => rfl)) (pe_ix ix_seq (pv 1) pe_int (fun _ _ => rfl))) (pe_op op_mulX (pe_ix ix_seq (pv 1) pe_int (fun _ _ => rfl)) (pe_ix ix_seq (pv 0) pe_int (fun _ _ => rfl)))) (pa_cons (pe_op op_mulX (pe_ix ix_seq (pv 0) pe_int (fun _ _ => rfl)) (pe_ix ix_seq (pv 1) pe_int (fun _ _ => rfl))) pa_nil)))))
def t_added (K : PySem.W.Frag) (Φ_plus : Ph) : TS := (tSeq (tAsg (tCB (rListQ K) (tCons (tVar 0) tNil)) (gName 1))
    (tSeq (tWhile (tTest (tOp rGtI (tCB (rLenQ K) (tCons (tVar 1) tNil)) (tC (.int 1)))) (tSeq (tAsg (tIf (tTest (tOp (rEqD K) (tOp rModN (tCB (rLenQ K) (tCons (tVar 1) tNil)) (tC (.int 2))) (tC (.int 1)))) (tSl (rSlL K) (tVar 1) (tPart (tUn rNegI (tC (.int 1)))) tNoPart) (tLst tNil)) (gName 2))
    (tAsg (tOp rCat (tLc (RZ.iZipA K (tCons (tStep K 0 (tVar 1)) (tCons (tStep K 1 (tVar 1)) tNil))) (gTup K 2 (gCons (gName 3) (gCons (gName 4) gNil))) tYes (tCall (SpD K Φ_plus) [] E0 (tCons (tVar 3) (tCons (tVar 4) tNil))) [3, 4]) (tVar 2)) (gName 1))))
    (tRet (tIf (tTru K (tVar 1)) (tOp (rIx K) (tVar 1) (tC (.int 0))) (tTup (tCons (tC (.int 0)) (tCons (tC (.int 1)) tNil)))))))
theorem dv_added {f : Addr} {cdv : Value} {A : Around} {outer : List Env} {s : Shared} {H : Hp} {E : XK} (hr : Room 3 (A.deeper (envOfC "added" (defScope s_added) s.heap.objs.size f cdv))) (B : ∀ x, x ∈ blt → mg x = none) (cs : Csts mg) {Φ_plus : Ph} (g_plus : Kn Pg w K mg base "plus" 3 ["one", "other"] Φ_plus) :
    PSs (cxOf CX0 Pg w K mg base ["terms", "sums", "alone", "one", "other"] "added" (defScope s_added) f cdv A outer s H E).nox (defBody s_added) (t_added K Φ_plus) :=
  (pss_cons (ps_set (i := 1) sc_added.nd rfl (by first | exact .inl rfl | exact .inr rfl) (pe_callTy call_list_of (by rfl) (B "list" (by decide)) (by decide +kernel) (pa_cons (pv 0) pa_nil)))
      (pss_cons (ps_while PassesOwn.never (pt_cmpR op_gt (pe_callB call_len_seq (by rfl) (B "len" (by decide)) (by decide +kernel) (pa_cons (pv 1) pa_nil)) pe_int (nomark _)) (pss_cons (ps_set (i := 2) sc_added.nd rfl (by first | exact .inl rfl | exact .inr rfl) (pe_ifExp (pt_cmpR (op_eqD hr.units) (pe_op op_modN (pe_callB call_len_seq (by rfl) (B "len" (by decide)) (by decide +kernel) (pa_cons (pv 1) pa_nil)) pe_int) pe_int (nomark _)) (pe_slice sl_list (pv 1) (po_some (pe_un un_neg pe_int)) po_none) (pe_lst pa_nil)))
      (pss_one (ps_set (i := 1) sc_added.nd rfl (by first | exact .inl rfl | exact .inr rfl) (pe_op op_cat (pe_lc (own := [("one", 3), ("other", 4)]) (g := (gTup K 2 (gCons (gName 3) (gCons (gName 4) gNil)))) (tt := tYes) rfl sc_added.nd (RZ.pi_zipA (by rfl) (B "zip" (by decide)) (pa_cons (pe_step0 (pv 1)) (pa_cons (pe_step1 (pv 1)) pa_nil))) (blkOk_by (own := [("one", 3), ("other", 4)]) (N := ["terms", "sums", "alone", "one", "other"]) (sc := defScope s_added) (by decide +kernel)) (fun _ _ _ _ _ => (pg_tup rfl (pgs_cons (pg_name (i := 3) sc_added.nd rfl (by first | exact .inl rfl | exact .inr rfl)) (pgs_cons (pg_name (i := 4) sc_added.nd rfl (by first | exact .inl rfl | exact .inr rfl)) pgs_nil)))) (fun _ _ _ _ _ => pts_nil) (fun _ _ _ _ _ => (pe_callD g_plus (hr.mono (by decide)) (by rfl) (pa_cons (pv 3) (pa_cons (pv 4) pa_nil))))) (pv 2))))))
      (pss_one (ps_ret (pe_ifExp (pt_tru (pv 1)) (pe_ix ix_seq (pv 1) pe_int (fun _ _ => rfl)) (pe_tup (pa_cons pe_int (pa_cons pe_int pa_nil))))))))
def t_is_weight (K : PySem.W.Frag) (Φ_is_fraction : Ph) : TS := (tRet (tAndV (tCall (SpD K Φ_is_fraction) [] E0 (tCons (tVar 0) tNil)) (tAndV (tOp rLeI (tCB rAbs (tCons (tOp (rIx K) (tVar 0) (tC (.int 0))) tNil)) (tC (.int 1000000000))) (tOp rLeI (tOp (rIx K) (tVar 0) (tC (.int 1))) (tC (.int 1000))))))
theorem dv_is_weight {f : Addr} {cdv : Value} {A : Around} {outer : List Env} {s : Shared} {H : Hp} {E : XK} (hr : Room 2 (A.deeper (envOfC "is_weight" (defScope s_is_weight) s.heap.objs.size f cdv))) (B : ∀ x, x ∈ blt → mg x = none) (cs : Csts mg) {Φ_is_fraction : Ph} (g_is_fraction : Kn Pg w K mg base "is_fraction" 2 ["thing"] Φ_is_fraction) :
    PSs (cxOf CX0 Pg w K mg base ["thing"] "is_weight" (defScope s_is_weight) f cdv A outer s H E).nox (defBody s_is_weight) (t_is_weight K Φ_is_fraction) :=
  (pss_one (ps_ret (pe_and (pe_callD g_is_fraction (hr.mono (by decide)) (by rfl) (pa_cons (pv 0) pa_nil)) (pe_and (pe_cmpR op_le (pe_callB call_abs (by rfl) (B "abs" (by decide)) (by decide +kernel) (pa_cons (pe_ix ix_seq (pv 0) pe_int (fun _ _ => rfl)) pa_nil)) (pe_num rfl cs.c_MOST_TOP) (nomark _)) (pe_one (pe_cmpR op_le (pe_ix ix_seq (pv 0) pe_int (fun _ _ => rfl)) (pe_num rfl cs.c_MOST_BOTTOM) (nomark _)))))))
def t_told_tie (K : PySem.W.Frag) (Φ_is_triple : Ph) (Φ_is_weight : Ph) (Φ_are_unlike_points : Ph) : TS := (tSeq (tIfS (tNot (L2.tB (tCall (SpD K Φ_is_triple) [] E0 (tCons (tVar 1) tNil)))) (tRet (tC .non)) tNext)
    (tSeq (tAsg (tVar 1) (gRw K 3 (gCons (gName 2) (gCons (gName 3) (gCons (gName 4) gNil)))))
    (tSeq (tIfS (tOr (tNot (L2.tB (tCall (SpD K Φ_are_unlike_points) [] E0 (tCons (tVar 0) (tCons (tVar 2) (tCons (tVar 3) tNil)))))) (tNot (L2.tB (tCall (SpD K Φ_is_weight) [] E0 (tCons (tVar 4) tNil))))) (tRet (tC .non)) tNext)
    (tRet (tTup (tCons (tCB rMinI (tCons (tVar 2) (tCons (tVar 3) tNil))) (tCons (tCB rMaxI (tCons (tVar 2) (tCons (tVar 3) tNil))) (tCons (tVar 4) tNil))))))))
theorem dv_told_tie {f : Addr} {cdv : Value} {A : Around} {outer : List Env} {s : Shared} {H : Hp} {E : XK} (hr : Room 3 (A.deeper (envOfC "told_tie" (defScope s_told_tie) s.heap.objs.size f cdv))) (B : ∀ x, x ∈ blt → mg x = none) (cs : Csts mg) {Φ_is_triple : Ph} {Φ_is_weight : Ph} {Φ_are_unlike_points : Ph} (g_is_triple : Kn Pg w K mg base "is_triple" 2 ["thing"] Φ_is_triple) (g_is_weight : Kn Pg w K mg base "is_weight" 3 ["thing"] Φ_is_weight) (g_are_unlike_points : Kn Pg w K mg base "are_unlike_points" 3 ["many", "one", "other"] Φ_are_unlike_points) :
    PSs (cxOf CX0 Pg w K mg base ["many", "thing", "one", "other", "weight"] "told_tie" (defScope s_told_tie) f cdv A outer s H E).nox (defBody s_told_tie) (t_told_tie K Φ_is_triple Φ_is_weight Φ_are_unlike_points) :=
  (pss_cons (ps_if (pt_not (pt_val (pe_callD g_is_triple (hr.mono (by decide)) (by rfl) (pa_cons (pv 1) pa_nil)))) (pss_one (ps_ret pe_non)) pss_nil)
      (pss_cons (ps_asg (pv 1) (pg_rw rfl (pgs_cons (pg_name (i := 2) sc_told_tie.nd rfl (by first | exact .inl rfl | exact .inr rfl)) (pgs_cons (pg_name (i := 3) sc_told_tie.nd rfl (by first | exact .inl rfl | exact .inr rfl)) (pgs_cons (pg_name (i := 4) sc_told_tie.nd rfl (by first | exact .inl rfl | exact .inr rfl)) pgs_nil)))))
      (pss_cons (ps_if (PW.pt (pw_or (pt_not (pt_val (pe_callD g_are_unlike_points (hr.mono (by decide)) (by rfl) (pa_cons (pv 0) (pa_cons (pv 2) (pa_cons (pv 3) pa_nil)))))) (pw_or1 (pt_not (pt_val (pe_callD g_is_weight (hr.mono (by decide)) (by rfl) (pa_cons (pv 4) pa_nil))))))) (pss_one (ps_ret pe_non)) pss_nil)
      (pss_one (ps_ret (pe_tup (pa_cons (pe_callB (call_min2 rfl) (by rfl) (B "min" (by decide)) (by decide +kernel) (pa_cons (pv 2) (pa_cons (pv 3) pa_nil))) (pa_cons (pe_callB (call_max2 rfl) (by rfl) (B "max" (by decide)) (by decide +kernel) (pa_cons (pv 2) (pa_cons (pv 3) pa_nil))) (pa_cons (pv 4) pa_nil)))))))))
def t_made_web (K : PySem.W.Frag) (C_CutError C_NoWeb C_NoSide C_NoWishes C_TooGreat : Addr) (Φ_is_whole : Ph) (Φ_is_row : Ph) (Φ_told_tie : Ph) : XK → TS := fun E => (tSeq (tIfS (tOr (tNot (L2.tB (tCall (SpD K Φ_is_whole) [] E0 (tCons (tVar 0) tNil)))) (tNot (tTest (tChain rLeI rLeI (tC (.int 1)) (tVar 0) (tC (.int 60)))))) (tRs C_NoWeb E) tNext)
    (tSeq (tIfS (tOr (tNot (L2.tB (tCall (SpD K Φ_is_row) [] E0 (tCons (tVar 1) tNil)))) (tTest (tOp rGtI (tCB (rLenQ K) (tCons (tVar 1) tNil)) (tC (.int 170))))) (tRs C_NoWeb E) tNext)
    (tSeq (tAsg (tLc (iRow K 1) (gName 3) tYes (tCall (SpD K Φ_told_tie) [] E0 (tCons (tVar 0) (tCons (tVar 3) tNil))) [3]) (gName 2))
    (tSeq (tIfS (tTest (tOp (rInD K) (tC .non) (tVar 2))) (tRs C_NoWeb E) tNext)
    (tSeq (tAsg (tCB (rSortV K) (tCons (tVar 2) tNil)) (gName 2))
    (tSeq (tFor (iZip K (tCons (tVar 2) (tCons (tSl (rSlL K) (tVar 2) (tPart (tC (.int 1))) tNoPart) tNil))) (gTup K 2 (gCons (gName 4) (gCons (gName 5) gNil))) (tIfS (tTest (tOp (rEqD K) (tSl (rSlT K) (tVar 4) tNoPart (tPart (tC (.int 2)))) (tSl (rSlT K) (tVar 5) tNoPart (tPart (tC (.int 2)))))) (tRs C_NoWeb E) tNext))
    (tRet (tTup (tCons (tVar 0) (tCons (tCB (rTupQ K) (tCons (tVar 2) tNil)) tNil))))))))))
theorem dv_made_web {f : Addr} {cdv : Value} {A : Around} {outer : List Env} {s : Shared} {H : Hp} {E : XK} (hr : Room 4 (A.deeper (envOfC "made_web" (defScope s_made_web) s.heap.objs.size f cdv))) (B : ∀ x, x ∈ blt → mg x = none) (cs : Csts mg) {C_CutError C_NoWeb C_NoSide C_NoWishes C_TooGreat : Addr} (cl : Cls K mg C_CutError C_NoWeb C_NoSide C_NoWishes C_TooGreat) {Φ_is_whole : Ph} {Φ_is_row : Ph} {Φ_told_tie : Ph} (g_is_whole : Kn Pg w K mg base "is_whole" 1 ["thing"] Φ_is_whole) (g_is_row : Kn Pg w K mg base "is_row" 1 ["thing"] Φ_is_row) (g_told_tie : Kn Pg w K mg base "told_tie" 4 ["many", "thing"] Φ_told_tie) :
    PSs (cxOf (L2.CX Pg w) Pg w K mg base ["many", "ties", "told", "thing", "tie", "following"] "made_web" (defScope s_made_web) f cdv A outer s H E) (defBody s_made_web) (t_made_web K C_CutError C_NoWeb C_NoSide C_NoWishes C_TooGreat Φ_is_whole Φ_is_row Φ_told_tie E) :=
  (pss_cons (ps_if (PW.pt (pw_or (pt_not (pt_val (pe_callD g_is_whole (hr.mono (by decide)) (by rfl) (pa_cons (pv 0) pa_nil)))) (pw_or1 (pt_not (pt_chain op_le op_le pe_int (pv 0) (pe_num rfl cs.c_MOST_POINTS)))))) (pss_one (ps_raiseD cl.er_NoWeb rfl rfl rfl rfl rfl (by rfl))) pss_nil)
      (pss_cons (ps_if (PW.pt (pw_or (pt_not (pt_val (pe_callD g_is_row (hr.mono (by decide)) (by rfl) (pa_cons (pv 1) pa_nil)))) (pw_or1 (pt_cmpR op_gt (pe_callB call_len_seq (by rfl) (B "len" (by decide)) (by decide +kernel) (pa_cons (pv 1) pa_nil)) (pe_num rfl cs.c_MOST_TIES) (nomark _))))) (pss_one (ps_raiseD cl.er_NoWeb rfl rfl rfl rfl rfl (by rfl))) pss_nil)
      (pss_cons (ps_setLc (i := 2) (own := [("thing", 3)]) (g := (gName 3)) (tt := tYes) rfl sc_made_web.nd rfl rfl (sw_true rfl rfl rfl (by decide +kernel)) (pi_row (i := 1) (pv 1)) (blkOk_by (own := [("thing", 3)]) (N := ["many", "ties", "told", "thing", "tie", "following"]) (sc := defScope s_made_web) (by decide +kernel)) (fun _ _ _ _ _ => (pg_name (i := 3) sc_made_web.nd rfl (by first | exact .inl rfl | exact .inr rfl))) (fun _ _ _ _ _ => pts_nil) (fun _ _ _ _ _ => (pe_callD g_told_tie (hr.mono (by decide)) (by rfl) (pa_cons (pv 0) (pa_cons (pv 3) pa_nil)))))
      (pss_cons (ps_if (pt_cmpR (op_inD (units65 hr)) pe_non (pv 2) (by rfl)) (pss_one (ps_raiseD cl.er_NoWeb rfl rfl rfl rfl rfl (by rfl))) pss_nil)
      (pss_cons (ps_set (i := 2) sc_made_web.nd rfl (by first | exact .inl rfl | exact .inr rfl) (pe_callB (cr_sortV hr.units) (by rfl) (B "sorted" (by decide)) (by decide +kernel) (pa_cons (pv 2) pa_nil)))
      (pss_cons (ps_for (passes_of rfl) rfl (pi_zip (by rfl) (B "zip" (by decide)) (pa_cons (pv 2) (pa_cons (pe_slice sl_list (pv 2) (po_some pe_int) po_none) pa_nil))) (pg_tup rfl (pgs_cons (pg_name (i := 4) sc_made_web.nd rfl (by first | exact .inl rfl | exact .inr rfl)) (pgs_cons (pg_name (i := 5) sc_made_web.nd rfl (by first | exact .inl rfl | exact .inr rfl)) pgs_nil))) (pss_one (ps_if (pt_cmpR (op_eqD hr.units) (pe_slice sl_tup (pv 4) po_none (po_some pe_int)) (pe_slice sl_tup (pv 5) po_none (po_some pe_int)) (nomark _)) (pss_one (ps_raiseD cl.er_NoWeb rfl rfl rfl rfl rfl (by rfl))) pss_nil)))
      (pss_one (ps_ret (pe_tup (pa_cons (pv 0) (pa_cons (pe_callTy call_tuple_of (by rfl) (B "tuple" (by decide)) (by decide +kernel) (pa_cons (pv 2) pa_nil)) pa_nil)))))))))))
def t_made_side (K : PySem.W.Frag) (C_CutError C_NoWeb C_NoSide C_NoWishes C_TooGreat : Addr) (Φ_is_row : Ph) (Φ_is_number_of : Ph) : XK → TS := fun E => (tSeq (tIfS (tOr (tNot (L2.tB (tCall (SpD K Φ_is_row) [] E0 (tCons (tVar 1) tNil)))) (tTest (tOp (rNeD K) (tCB (rLenQ K) (tCons (tVar 1) tNil)) (tOp (rIx K) (tVar 0) (tC (.int 0)))))) (tRs C_NoSide E) tNext)
    (tSeq (tIfS (tNot (L2.tB (tCB (rAll K) (tCons (tLc (iRow K 1) (gName 2) tYes (tCall (SpD K Φ_is_number_of) [] E0 (tCons (tC (.int 2)) (tCons (tVar 2) tNil))) [2]) tNil)))) (tRs C_NoSide E) tNext)
    (tRet (tCB (rTupQ K) (tCons (tLc (iRow K 1) (gName 2) tYes (tOp rXorI (tVar 2) (tOp (rIx K) (tVar 1) (tC (.int 0)))) [2]) tNil)))))
theorem dv_made_side {f : Addr} {cdv : Value} {A : Around} {outer : List Env} {s : Shared} {H : Hp} {E : XK} (hr : Room 2 (A.deeper (envOfC "made_side" (defScope s_made_side) s.heap.objs.size f cdv))) (B : ∀ x, x ∈ blt → mg x = none) (cs : Csts mg) {C_CutError C_NoWeb C_NoSide C_NoWishes C_TooGreat : Addr} (cl : Cls K mg C_CutError C_NoWeb C_NoSide C_NoWishes C_TooGreat) {Φ_is_row : Ph} {Φ_is_number_of : Ph} (g_is_row : Kn Pg w K mg base "is_row" 1 ["thing"] Φ_is_row) (g_is_number_of : Kn Pg w K mg base "is_number_of" 2 ["many", "thing"] Φ_is_number_of) :
    PSs (cxOf (L2.CX Pg w) Pg w K mg base ["web", "bits", "bit"] "made_side" (defScope s_made_side) f cdv A outer s H E) (defBody s_made_side) (t_made_side K C_CutError C_NoWeb C_NoSide C_NoWishes C_TooGreat Φ_is_row Φ_is_number_of E) :=
  (pss_cons (ps_if (PW.pt (pw_or (pt_not (pt_val (pe_callD g_is_row (hr.mono (by decide)) (by rfl) (pa_cons (pv 1) pa_nil)))) (pw_or1 (pt_cmpR (op_neD hr.units) (pe_callB call_len_seq (by rfl) (B "len" (by decide)) (by decide +kernel) (pa_cons (pv 1) pa_nil)) (pe_ix ix_seq (pv 0) pe_int (fun _ _ => rfl)) (nomark _))))) (pss_one (ps_raiseD cl.er_NoSide rfl rfl rfl rfl rfl (by rfl))) pss_nil)
      (pss_cons (ps_if (pt_not (pt_val (pe_callB (cr_all rfl) (by rfl) (B "all" (by decide)) (by decide +kernel) (pa_cons (pe_lc (own := [("bit", 2)]) (g := (gName 2)) (tt := tYes) rfl sc_made_side.nd (pi_row (i := 1) (pv 1)) (blkOk_by (own := [("bit", 2)]) (N := ["web", "bits", "bit"]) (sc := defScope s_made_side) (by decide +kernel)) (fun _ _ _ _ _ => (pg_name (i := 2) sc_made_side.nd rfl (by first | exact .inl rfl | exact .inr rfl))) (fun _ _ _ _ _ => pts_nil) (fun _ _ _ _ _ => (pe_callD g_is_number_of (hr.mono (by decide)) (by rfl) (pa_cons pe_int (pa_cons (pv 2) pa_nil))))) pa_nil)))) (pss_one (ps_raiseD cl.er_NoSide rfl rfl rfl rfl rfl (by rfl))) pss_nil)
      (pss_one (ps_ret (pe_callTy call_tuple_of (by rfl) (B "tuple" (by decide)) (by decide +kernel) (pa_cons (pe_lc (own := [("bit", 2)]) (g := (gName 2)) (tt := tYes) rfl sc_made_side.nd (pi_row (i := 1) (pv 1)) (blkOk_by (own := [("bit", 2)]) (N := ["web", "bits", "bit"]) (sc := defScope s_made_side) (by decide +kernel)) (fun _ _ _ _ _ => (pg_name (i := 2) sc_made_side.nd rfl (by first | exact .inl rfl | exact .inr rfl))) (fun _ _ _ _ _ => pts_nil) (fun _ _ _ _ _ => (pe_op op_xor (pv 2) (pe_ix ix_seq (pv 1) pe_int (fun _ _ => rfl))))) pa_nil))))))
def t_side_of_bits (K : PySem.W.Frag) (C_CutError C_NoWeb C_NoSide C_NoWishes C_TooGreat : Addr) (Φ_made_side : PhX) : TS := (tRet (tCall (SpX K C_NoSide Φ_made_side) [] E0 (tCons (tVar 0) (tCons (tLc (RZ.iZipA K (tCons (tVar 1) (tCons (tVar 2) tNil))) (gTup K 2 (gCons (gName 4) (gCons (gName 5) gNil))) tYes (tOp rXorI (tOp (rIx K) (tVar 3) (tVar 4)) (tVar 5)) [4, 5]) tNil))))
theorem dv_side_of_bits {f : Addr} {cdv : Value} {A : Around} {outer : List Env} {s : Shared} {H : Hp} {E : XK} (hr : Room 3 (A.deeper (envOfC "side_of_bits" (defScope s_side_of_bits) s.heap.objs.size f cdv))) (B : ∀ x, x ∈ blt → mg x = none) (cs : Csts mg) {C_CutError C_NoWeb C_NoSide C_NoWishes C_TooGreat : Addr} (cl : Cls K mg C_CutError C_NoWeb C_NoSide C_NoWishes C_TooGreat) {Φ_made_side : PhX} (g_made_side : KnX Pg w K mg base "made_side" 3 ["web", "bits"] C_NoSide Φ_made_side) :
    PSs (cxOf CX0 Pg w K mg base ["web", "groups", "marks", "bits", "group", "mark"] "side_of_bits" (defScope s_side_of_bits) f cdv A outer s H E).nox (defBody s_side_of_bits) (t_side_of_bits K C_CutError C_NoWeb C_NoSide C_NoWishes C_TooGreat Φ_made_side) :=
  (pss_one (ps_ret (pe_callX0 g_made_side (hr.mono (by decide)) (by rfl) (pa_cons (pv 0) (pa_cons (pe_lc (own := [("group", 4), ("mark", 5)]) (g := (gTup K 2 (gCons (gName 4) (gCons (gName 5) gNil)))) (tt := tYes) rfl sc_side_of_bits.nd (RZ.pi_zipA (by rfl) (B "zip" (by decide)) (pa_cons (pv 1) (pa_cons (pv 2) pa_nil))) (blkOk_by (own := [("group", 4), ("mark", 5)]) (N := ["web", "groups", "marks", "bits", "group", "mark"]) (sc := defScope s_side_of_bits) (by decide +kernel)) (fun _ _ _ _ _ => (pg_tup rfl (pgs_cons (pg_name (i := 4) sc_side_of_bits.nd rfl (by first | exact .inl rfl | exact .inr rfl)) (pgs_cons (pg_name (i := 5) sc_side_of_bits.nd rfl (by first | exact .inl rfl | exact .inr rfl)) pgs_nil)))) (fun _ _ _ _ _ => pts_nil) (fun _ _ _ _ _ => (pe_op op_xor (pe_ix ix_seq (pv 3) (pv 4) (fun _ _ => rfl)) (pv 5)))) pa_nil)))))
def t_joins_at (K : PySem.W.Frag) : TS := (tSeq (tAsg (tLc (iRng1 (tCons (tVar 0) tNil)) (gName 3) tYes (tLst tNil) [3]) (gName 2))
    (tSeq (tFor (iEnT K (tCons (tVar 1) tNil)) (gTup K 2 (gCons (gName 4) (gCons (gTup K 3 (gCons (gName 5) (gCons (gName 6) (gCons (gName 7) gNil)))) gNil))) (tSeq (tDrop (tBM K "list" rAppend (tOp (rIx K) (tVar 2) (tVar 5)) (tCons (tTup (tCons (tVar 4) (tCons (tVar 6) (tCons (tVar 7) tNil)))) tNil)))
    (tDrop (tBM K "list" rAppend (tOp (rIx K) (tVar 2) (tVar 6)) (tCons (tTup (tCons (tVar 4) (tCons (tVar 5) (tCons (tVar 7) tNil)))) tNil)))))
    (tRet (tVar 2))))
theorem dv_joins_at {f : Addr} {cdv : Value} {A : Around} {outer : List Env} {s : Shared} {H : Hp} {E : XK} (hr : Room 0 (A.deeper (envOfC "joins_at" (defScope s_joins_at) s.heap.objs.size f cdv))) (B : ∀ x, x ∈ blt → mg x = none) (cs : Csts mg) :
    PSs (cxOf CX0 Pg w K mg base ["many", "joins", "near", "point", "number", "one", "other", "apart"] "joins_at" (defScope s_joins_at) f cdv A outer s H E).nox (defBody s_joins_at) (t_joins_at K) :=
  (pss_cons (ps_setLc (i := 2) (own := [("point", 3)]) (g := (gName 3)) (tt := tYes) rfl sc_joins_at.nd rfl rfl (sw_true rfl rfl rfl (by decide +kernel)) (pi_range1 (by rfl) (B "range" (by decide)) (pa_cons (pv 0) pa_nil)) (blkOk_by (own := [("point", 3)]) (N := ["many", "joins", "near", "point", "number", "one", "other", "apart"]) (sc := defScope s_joins_at) (by decide +kernel)) (fun _ _ _ _ _ => (pg_name (i := 3) sc_joins_at.nd rfl (by first | exact .inl rfl | exact .inr rfl))) (fun _ _ _ _ _ => pts_nil) (fun _ _ _ _ _ => (pe_lst pa_nil)))
      (pss_cons (ps_for PassesOwn.never rfl (pi_enT (by rfl) (B "enumerate" (by decide)) (pa_cons (pv 1) pa_nil)) (pg_tup rfl (pgs_cons (pg_name (i := 4) sc_joins_at.nd rfl (by first | exact .inl rfl | exact .inr rfl)) (pgs_cons (pg_tup rfl (pgs_cons (pg_name (i := 5) sc_joins_at.nd rfl (by first | exact .inl rfl | exact .inr rfl)) (pgs_cons (pg_name (i := 6) sc_joins_at.nd rfl (by first | exact .inl rfl | exact .inr rfl)) (pgs_cons (pg_name (i := 7) sc_joins_at.nd rfl (by first | exact .inl rfl | exact .inr rfl)) pgs_nil)))) pgs_nil))) (pss_cons (ps_expr (pe_bm PySem.F.plainAttrs_list PySem.F.slot_list_append PySem.F.type_list_append mt_append (pe_ix ix_seq (pv 2) (pv 5) (fun _ _ => rfl)) (pa_cons (pe_tup (pa_cons (pv 4) (pa_cons (pv 6) (pa_cons (pv 7) pa_nil)))) pa_nil)))
      (pss_one (ps_expr (pe_bm PySem.F.plainAttrs_list PySem.F.slot_list_append PySem.F.type_list_append mt_append (pe_ix ix_seq (pv 2) (pv 6) (fun _ _ => rfl)) (pa_cons (pe_tup (pa_cons (pv 4) (pa_cons (pv 5) (pa_cons (pv 7) pa_nil)))) pa_nil))))))
      (pss_one (ps_ret (pv 2)))))
def t_group_from (K : PySem.W.Frag) : TS := (tSeq (tAsg (tDisp (((tVar 1), (tTup (tCons (tC (.int 0)) (tCons (tTup tNil) tNil)))) :: [])) (gName 2))
    (tSeq (tAsg (tLst (tCons (tVar 1) tNil)) (gName 3))
    (tSeq (tWhile (tTru K (tVar 3)) (tSeq (tAsg (tBM K "list" rPopAt (tVar 3) (tCons (tC (.int 0)) tNil)) (gName 4))
    (tSeq (tAsg (tDGet (tVar 2) (tVar 4)) (gTup K 2 (gCons (gName 5) (gCons (gName 6) gNil))))
    (tFor (iList K (tOp (rIx K) (tVar 0) (tVar 4))) (gTup K 3 (gCons (gName 7) (gCons (gName 8) (gCons (gName 9) gNil)))) (tIfS (L2.tB (tDNotIn (tVar 8) (tVar 2))) (tSeq (tAsg (tTup (tCons (tOp rXorI (tVar 5) (tVar 9)) (tCons (tOp (rCatA K) (tVar 6) (tTup (tCons (tVar 7) tNil))) tNil))) (gSub (tVar 2) (tVar 8) rSetD))
    (tDrop (tBM K "list" rAppend (tVar 3) (tCons (tVar 8) tNil)))) tNext)))))
    (tRet (tVar 2)))))
theorem dv_group_from {f : Addr} {cdv : Value} {A : Around} {outer : List Env} {s : Shared} {H : Hp} {E : XK} (hr : Room 0 (A.deeper (envOfC "group_from" (defScope s_group_from) s.heap.objs.size f cdv))) (B : ∀ x, x ∈ blt → mg x = none) (cs : Csts mg) :
    PSs (cxOf CX0 Pg w K mg base ["near", "first", "found", "waiting", "point", "mark", "way", "number", "other", "apart"] "group_from" (defScope s_group_from) f cdv A outer s H E).nox (defBody s_group_from) (t_group_from K) :=
  (pss_cons (ps_set (i := 2) sc_group_from.nd rfl (by first | exact .inl rfl | exact .inr rfl) (pe_disp (pps_cons (pv 1) (pe_tup (pa_cons pe_int (pa_cons (pe_tup pa_nil) pa_nil))) pps_nil) (by rfl) (by rfl) (fun z => by cases z) (by decide)))
      (pss_cons (ps_set (i := 3) sc_group_from.nd rfl (by first | exact .inl rfl | exact .inr rfl) (pe_lst (pa_cons (pv 1) pa_nil)))
      (pss_cons (ps_while PassesOwn.never (pt_tru (pv 3)) (pss_cons (ps_set (i := 4) sc_group_from.nd rfl (by first | exact .inl rfl | exact .inr rfl) (pe_bm PySem.F.plainAttrs_list PySem.F.slot_list_pop PySem.F.type_list_pop mt_popAt (pv 3) (pa_cons pe_int pa_nil)))
      (pss_cons (ps_asg (pe_dget (u1 hr) (pv 2) (pv 4) (fun _ _ => rfl)) (pg_tup rfl (pgs_cons (pg_name (i := 5) sc_group_from.nd rfl (by first | exact .inl rfl | exact .inr rfl)) (pgs_cons (pg_name (i := 6) sc_group_from.nd rfl (by first | exact .inl rfl | exact .inr rfl)) pgs_nil))))
      (pss_one (ps_for PassesOwn.never rfl (pi_list (pe_ix ix_seq (pv 0) (pv 4) (fun _ _ => rfl))) (pg_tup rfl (pgs_cons (pg_name (i := 7) sc_group_from.nd rfl (by first | exact .inl rfl | exact .inr rfl)) (pgs_cons (pg_name (i := 8) sc_group_from.nd rfl (by first | exact .inl rfl | exact .inr rfl)) (pgs_cons (pg_name (i := 9) sc_group_from.nd rfl (by first | exact .inl rfl | exact .inr rfl)) pgs_nil)))) (pss_one (ps_if (pt_cmp (pc_dnotin (u1 hr) (pv 8) (pv 2))) (pss_cons (ps_asg (pe_tup (pa_cons (pe_op op_xor (pv 5) (pv 9)) (pa_cons (pe_op op_catA (pv 6) (pe_tup (pa_cons (pv 7) pa_nil))) pa_nil))) (pg_sub (pv 2) (pv 8) (set_dict (u1 hr))))
      (pss_one (ps_expr (pe_bm PySem.F.plainAttrs_list PySem.F.slot_list_append PySem.F.type_list_append mt_append (pv 3) (pa_cons (pv 8) pa_nil))))) pss_nil)))))))
      (pss_one (ps_ret (pv 2))))))
def t_spread (K : PySem.W.Frag) (Φ_joins_at : Ph) (Φ_group_from : Ph) : TS := (tSeq (tAsg (tCall (SpD K Φ_joins_at) [] E0 (tCons (tVar 0) (tCons (tVar 1) tNil))) (gName 2))
    (tSeq (tPar3 3 4 5 (tCons tDNewK (tCons tDNewK (tCons tDNewK tNil))))
    (tSeq (tAsg (tC (.int 0)) (gName 6))
    (tSeq (tFor (iRng1 (tCons (tVar 0) tNil)) (gName 7) (tIfS (L2.tB (tDNotIn (tVar 7) (tVar 3))) (tSeq (tFor (iItems (tLkN (tCall (SpD K Φ_group_from) [] E0 (tCons (tVar 2) (tCons (tVar 7) tNil))))) (gTup K 2 (gCons (gName 8) (gCons (gTup K 2 (gCons (gName 9) (gCons (gName 10) gNil))) gNil))) (tAsg (tTup (tCons (tVar 6) (tCons (tVar 9) (tCons (tVar 10) tNil)))) (gTup K 3 (gCons (gSub (tVar 3) (tVar 8) rSetD) (gCons (gSub (tVar 4) (tVar 8) rSetD) (gCons (gSub (tVar 5) (tVar 8) rSetD) gNil))))))
    (tAug 6 (tC (.int 1)) (ipI fun i j => i + j))) tNext))
    (tRet (tTup (tCons (tVar 3) (tCons (tVar 4) (tCons (tVar 5) tNil)))))))))
theorem dv_spread {f : Addr} {cdv : Value} {A : Around} {outer : List Env} {s : Shared} {H : Hp} {E : XK} (hr : Room 1 (A.deeper (envOfC "spread" (defScope s_spread) s.heap.objs.size f cdv))) (B : ∀ x, x ∈ blt → mg x = none) (cs : Csts mg) {Φ_joins_at : Ph} {Φ_group_from : Ph} (g_joins_at : Kn Pg w K mg base "joins_at" 1 ["many", "joins"] Φ_joins_at) (g_group_from : Kn Pg w K mg base "group_from" 1 ["near", "first"] Φ_group_from) :
    PSs (cxOf CX0 Pg w K mg base ["many", "joins", "near", "groups", "marks", "ways", "count", "first", "point", "mark", "way"] "spread" (defScope s_spread) f cdv A outer s H E).nox (defBody s_spread) (t_spread K Φ_joins_at Φ_group_from) :=
  (pss_cons (ps_set (i := 2) sc_spread.nd rfl (by first | exact .inl rfl | exact .inr rfl) (pe_callD g_joins_at (hr.mono (by decide)) (by rfl) (pa_cons (pv 0) (pa_cons (pv 1) pa_nil))))
      (pss_cons (ps_par3 (by rfl) sc_spread.nd (i := 3) (j := 4) (l := 5) rfl rfl rfl (by decide) (by decide) (by decide) rfl rfl rfl (pa_cons pe_dnewK (pa_cons pe_dnewK (pa_cons pe_dnewK pa_nil))) (by rfl))
      (pss_cons (ps_set (i := 6) sc_spread.nd rfl (by first | exact .inl rfl | exact .inr rfl) pe_int)
      (pss_cons (ps_for PassesOwn.never rfl (pi_range1 (by rfl) (B "range" (by decide)) (pa_cons (pv 0) pa_nil)) (pg_name (i := 7) sc_spread.nd rfl (by first | exact .inl rfl | exact .inr rfl)) (pss_one (ps_if (pt_cmp (pc_dnotin (u1 hr) (pv 7) (pv 3))) (pss_cons (ps_for PassesOwn.never rfl (pi_items (pe_lkN (pe_callD g_group_from (hr.mono (by decide)) (by rfl) (pa_cons (pv 2) (pa_cons (pv 7) pa_nil))))) (pg_tup rfl (pgs_cons (pg_name (i := 8) sc_spread.nd rfl (by first | exact .inl rfl | exact .inr rfl)) (pgs_cons (pg_tup rfl (pgs_cons (pg_name (i := 9) sc_spread.nd rfl (by first | exact .inl rfl | exact .inr rfl)) (pgs_cons (pg_name (i := 10) sc_spread.nd rfl (by first | exact .inl rfl | exact .inr rfl)) pgs_nil))) pgs_nil))) (pss_one (ps_asg (pe_tup (pa_cons (pv 6) (pa_cons (pv 9) (pa_cons (pv 10) pa_nil)))) (pg_tup rfl (pgs_cons (pg_sub (pv 3) (pv 8) (set_dict (u1 hr))) (pgs_cons (pg_sub (pv 4) (pv 8) (set_dict (u1 hr))) (pgs_cons (pg_sub (pv 5) (pv 8) (set_dict (u1 hr))) pgs_nil)))))))
      (pss_one (ps_aug (i := 6) sc_spread.nd rfl (by first | exact .inl rfl | exact .inr rfl) pe_int ip_add))) pss_nil)))
      (pss_one (ps_ret (pe_tup (pa_cons (pv 3) (pa_cons (pv 4) (pa_cons (pv 5) pa_nil))))))))))
def t_ring_closed (K : PySem.W.Frag) : TS := (tSeq (tAsg (tLc (iTup K (tVar 0)) (gName 4) (tTest (tOp (rIn K true) (tVar 4) (tVar 1))) (tVar 4) [4]) (gName 3))
    (tSeq (tAsg (tLc (iTup K (tVar 1)) (gName 4) (tTest (tOp (rIn K true) (tVar 4) (tVar 0))) (tVar 4) [4]) (gName 5))
    (tRet (tCB (rTupQ K) (tCons (tCB (rSortedI K) (tCons (tOp rCat (tOp rCat (tVar 3) (tVar 5)) (tLst (tCons (tVar 2) tNil))) tNil)) tNil)))))
theorem dv_ring_closed {f : Addr} {cdv : Value} {A : Around} {outer : List Env} {s : Shared} {H : Hp} {E : XK} (hr : Room 0 (A.deeper (envOfC "ring_closed" (defScope s_ring_closed) s.heap.objs.size f cdv))) (B : ∀ x, x ∈ blt → mg x = none) (cs : Csts mg) :
    PSs (cxOf CX0 Pg w K mg base ["way", "other_way", "number", "alone", "step", "other_alone"] "ring_closed" (defScope s_ring_closed) f cdv A outer s H E).nox (defBody s_ring_closed) (t_ring_closed K) :=
  (pss_cons (ps_setLc (i := 3) (own := [("step", 4)]) (g := (gName 4)) (tt := (tTest (tOp (rIn K true) (tVar 4) (tVar 1)))) rfl sc_ring_closed.nd rfl rfl (sw_true rfl rfl rfl (by decide +kernel)) (pi_tup (pv 0)) (blkOk_by (own := [("step", 4)]) (N := ["way", "other_way", "number", "alone", "step", "other_alone"]) (sc := defScope s_ring_closed) (by decide +kernel)) (fun _ _ _ _ _ => (pg_name (i := 4) sc_ring_closed.nd rfl (by first | exact .inl rfl | exact .inr rfl))) (fun _ _ _ _ _ => (pts_one (pt_cmpR op_notIn_seq (pv 4) (pv 1) (by rfl)))) (fun _ _ _ _ _ => (pv 4)))
      (pss_cons (ps_setLc (i := 5) (own := [("step", 4)]) (g := (gName 4)) (tt := (tTest (tOp (rIn K true) (tVar 4) (tVar 0)))) rfl sc_ring_closed.nd rfl rfl (sw_true rfl rfl rfl (by decide +kernel)) (pi_tup (pv 1)) (blkOk_by (own := [("step", 4)]) (N := ["way", "other_way", "number", "alone", "step", "other_alone"]) (sc := defScope s_ring_closed) (by decide +kernel)) (fun _ _ _ _ _ => (pg_name (i := 4) sc_ring_closed.nd rfl (by first | exact .inl rfl | exact .inr rfl))) (fun _ _ _ _ _ => (pts_one (pt_cmpR op_notIn_seq (pv 4) (pv 0) (by rfl)))) (fun _ _ _ _ _ => (pv 4)))
      (pss_one (ps_ret (pe_callTy call_tuple_of (by rfl) (B "tuple" (by decide)) (by decide +kernel) (pa_cons (pe_callB cr_sortedI (by rfl) (B "sorted" (by decide)) (by decide +kernel) (pa_cons (pe_op op_cat (pe_op op_cat (pv 3) (pv 5)) (pe_lst (pa_cons (pv 2) pa_nil))) pa_nil)) pa_nil))))))
def t_odd_rings (K : PySem.W.Frag) (Φ_ring_closed : Ph) : TS := (tSeq (tAsg (tLst tNil) (gName 3))
    (tSeq (tFor (iEnT K (tCons (tVar 0) tNil)) (gTup K 2 (gCons (gName 4) (gCons (gTup K 3 (gCons (gName 5) (gCons (gName 6) (gCons (gName 7) gNil)))) gNil))) (tIfS (tTest (tOp (rNeD K) (tOp rXorI (tDGet (tVar 1) (tVar 5)) (tDGet (tVar 1) (tVar 6))) (tVar 7))) (tDrop (tBM K "list" rAppend (tVar 3) (tCons (tCall (SpD K Φ_ring_closed) [] E0 (tCons (tDGet (tVar 2) (tVar 5)) (tCons (tDGet (tVar 2) (tVar 6)) (tCons (tVar 4) tNil)))) tNil))) tNext))
    (tRet (tVar 3))))
theorem dv_odd_rings {f : Addr} {cdv : Value} {A : Around} {outer : List Env} {s : Shared} {H : Hp} {E : XK} (hr : Room 1 (A.deeper (envOfC "odd_rings" (defScope s_odd_rings) s.heap.objs.size f cdv))) (B : ∀ x, x ∈ blt → mg x = none) (cs : Csts mg) {Φ_ring_closed : Ph} (g_ring_closed : Kn Pg w K mg base "ring_closed" 1 ["way", "other_way", "number"] Φ_ring_closed) :
    PSs (cxOf CX0 Pg w K mg base ["joins", "marks", "ways", "rings", "number", "one", "other", "apart"] "odd_rings" (defScope s_odd_rings) f cdv A outer s H E).nox (defBody s_odd_rings) (t_odd_rings K Φ_ring_closed) :=
  (pss_cons (ps_set (i := 3) sc_odd_rings.nd rfl (by first | exact .inl rfl | exact .inr rfl) (pe_lst pa_nil))
      (pss_cons (ps_for PassesOwn.never rfl (pi_enT (by rfl) (B "enumerate" (by decide)) (pa_cons (pv 0) pa_nil)) (pg_tup rfl (pgs_cons (pg_name (i := 4) sc_odd_rings.nd rfl (by first | exact .inl rfl | exact .inr rfl)) (pgs_cons (pg_tup rfl (pgs_cons (pg_name (i := 5) sc_odd_rings.nd rfl (by first | exact .inl rfl | exact .inr rfl)) (pgs_cons (pg_name (i := 6) sc_odd_rings.nd rfl (by first | exact .inl rfl | exact .inr rfl)) (pgs_cons (pg_name (i := 7) sc_odd_rings.nd rfl (by first | exact .inl rfl | exact .inr rfl)) pgs_nil)))) pgs_nil))) (pss_one (ps_if (pt_cmpR (op_neD hr.units) (pe_op op_xor (pe_dget (u1 hr) (pv 1) (pv 5) (fun _ _ => rfl)) (pe_dget (u1 hr) (pv 1) (pv 6) (fun _ _ => rfl))) (pv 7) (nomark _)) (pss_one (ps_expr (pe_bm PySem.F.plainAttrs_list PySem.F.slot_list_append PySem.F.type_list_append mt_append (pv 3) (pa_cons (pe_callD g_ring_closed (hr.mono (by decide)) (by rfl) (pa_cons (pe_dget (u1 hr) (pv 2) (pv 5) (fun _ _ => rfl)) (pa_cons (pe_dget (u1 hr) (pv 2) (pv 6) (fun _ _ => rfl)) (pa_cons (pv 4) pa_nil)))) pa_nil)))) pss_nil)))
      (pss_one (ps_ret (pv 3)))))
def t_parted (K : PySem.W.Frag) (Φ_spread : Ph) (Φ_odd_rings : Ph) : TS := (tSeq (tAsg (tCall (SpD K Φ_spread) [] E0 (tCons (tVar 0) (tCons (tVar 1) tNil))) (gTup K 3 (gCons (gName 2) (gCons (gName 3) (gCons (gName 4) gNil)))))
    (tSeq (tAsg (tCall (SpD K Φ_odd_rings) [] E0 (tCons (tVar 1) (tCons (tVar 3) (tCons (tVar 4) tNil)))) (gName 5))
    (tSeq (tIfS (tTru K (tVar 5)) (tRet (tTup (tCons (tC (.str "ring")) (tCons (tMinL K (tCons (tVar 5) tNil)) tNil)))) tNext)
    (tRet (tTup (tCons (tC (.str "groups")) (tCons (tCB (rTupQ K) (tCons (tLc (iRng1 (tCons (tVar 0) tNil)) (gName 6) tYes (tDGet (tVar 2) (tVar 6)) [6]) tNil)) (tCons (tCB (rTupQ K) (tCons (tLc (iRng1 (tCons (tVar 0) tNil)) (gName 6) tYes (tDGet (tVar 3) (tVar 6)) [6]) tNil)) tNil))))))))
theorem dv_parted {f : Addr} {cdv : Value} {A : Around} {outer : List Env} {s : Shared} {H : Hp} {E : XK} (hr : Room 2 (A.deeper (envOfC "parted" (defScope s_parted) s.heap.objs.size f cdv))) (B : ∀ x, x ∈ blt → mg x = none) (cs : Csts mg) {Φ_spread : Ph} {Φ_odd_rings : Ph} (g_spread : Kn Pg w K mg base "spread" 2 ["many", "joins"] Φ_spread) (g_odd_rings : Kn Pg w K mg base "odd_rings" 2 ["joins", "marks", "ways"] Φ_odd_rings) :
    PSs (cxOf CX0 Pg w K mg base ["many", "joins", "groups", "marks", "ways", "rings", "point"] "parted" (defScope s_parted) f cdv A outer s H E).nox (defBody s_parted) (t_parted K Φ_spread Φ_odd_rings) :=
  (pss_cons (ps_asg (pe_callD g_spread (hr.mono (by decide)) (by rfl) (pa_cons (pv 0) (pa_cons (pv 1) pa_nil))) (pg_tup rfl (pgs_cons (pg_name (i := 2) sc_parted.nd rfl (by first | exact .inl rfl | exact .inr rfl)) (pgs_cons (pg_name (i := 3) sc_parted.nd rfl (by first | exact .inl rfl | exact .inr rfl)) (pgs_cons (pg_name (i := 4) sc_parted.nd rfl (by first | exact .inl rfl | exact .inr rfl)) pgs_nil)))))
      (pss_cons (ps_set (i := 5) sc_parted.nd rfl (by first | exact .inl rfl | exact .inr rfl) (pe_callD g_odd_rings (hr.mono (by decide)) (by rfl) (pa_cons (pv 1) (pa_cons (pv 3) (pa_cons (pv 4) pa_nil)))))
      (pss_cons (ps_if (pt_tru (pv 5)) (pss_one (ps_ret (pe_tup (pa_cons pe_str (pa_cons (pe_minL (by rfl) (by rfl) (B "min" (by decide)) (by rfl) (B "len" (by decide)) (pa_cons (pv 5) pa_nil)) pa_nil))))) pss_nil)
      (pss_one (ps_ret (pe_tup (pa_cons pe_str (pa_cons (pe_callTy call_tuple_of (by rfl) (B "tuple" (by decide)) (by decide +kernel) (pa_cons (pe_lc (own := [("point", 6)]) (g := (gName 6)) (tt := tYes) rfl sc_parted.nd (pi_range1 (by rfl) (B "range" (by decide)) (pa_cons (pv 0) pa_nil)) (blkOk_by (own := [("point", 6)]) (N := ["many", "joins", "groups", "marks", "ways", "rings", "point"]) (sc := defScope s_parted) (by decide +kernel)) (fun _ _ _ _ _ => (pg_name (i := 6) sc_parted.nd rfl (by first | exact .inl rfl | exact .inr rfl))) (fun _ _ _ _ _ => pts_nil) (fun _ _ _ _ _ => (pe_dget (u1 hr) (pv 2) (pv 6) (fun _ _ => rfl)))) pa_nil)) (pa_cons (pe_callTy call_tuple_of (by rfl) (B "tuple" (by decide)) (by decide +kernel) (pa_cons (pe_lc (own := [("point", 6)]) (g := (gName 6)) (tt := tYes) rfl sc_parted.nd (pi_range1 (by rfl) (B "range" (by decide)) (pa_cons (pv 0) pa_nil)) (blkOk_by (own := [("point", 6)]) (N := ["many", "joins", "groups", "marks", "ways", "rings", "point"]) (sc := defScope s_parted) (by decide +kernel)) (fun _ _ _ _ _ => (pg_name (i := 6) sc_parted.nd rfl (by first | exact .inl rfl | exact .inr rfl))) (fun _ _ _ _ _ => pts_nil) (fun _ _ _ _ _ => (pe_dget (u1 hr) (pv 3) (pv 6) (fun _ _ => rfl)))) pa_nil)) pa_nil)))))))))
def t_is_wish (K : PySem.W.Frag) (Φ_is_triple : Ph) (Φ_is_number_of : Ph) (Φ_are_unlike_points : Ph) : TS := (tSeq (tIfS (tNot (L2.tB (tCall (SpD K Φ_is_triple) [] E0 (tCons (tVar 1) tNil)))) (tRet (tC (.bl false))) tNext)
    (tSeq (tAsg (tVar 1) (gRw K 3 (gCons (gName 2) (gCons (gName 3) (gCons (gName 4) gNil)))))
    (tRet (tAndV (tCall (SpD K Φ_are_unlike_points) [] E0 (tCons (tOp (rIx K) (tVar 0) (tC (.int 0))) (tCons (tVar 2) (tCons (tVar 3) tNil)))) (tCall (SpD K Φ_is_number_of) [] E0 (tCons (tC (.int 2)) (tCons (tVar 4) tNil)))))))
theorem dv_is_wish {f : Addr} {cdv : Value} {A : Around} {outer : List Env} {s : Shared} {H : Hp} {E : XK} (hr : Room 3 (A.deeper (envOfC "is_wish" (defScope s_is_wish) s.heap.objs.size f cdv))) (B : ∀ x, x ∈ blt → mg x = none) (cs : Csts mg) {Φ_is_triple : Ph} {Φ_is_number_of : Ph} {Φ_are_unlike_points : Ph} (g_is_triple : Kn Pg w K mg base "is_triple" 2 ["thing"] Φ_is_triple) (g_is_number_of : Kn Pg w K mg base "is_number_of" 2 ["many", "thing"] Φ_is_number_of) (g_are_unlike_points : Kn Pg w K mg base "are_unlike_points" 3 ["many", "one", "other"] Φ_are_unlike_points) :
    PSs (cxOf CX0 Pg w K mg base ["web", "thing", "one", "other", "apart"] "is_wish" (defScope s_is_wish) f cdv A outer s H E).nox (defBody s_is_wish) (t_is_wish K Φ_is_triple Φ_is_number_of Φ_are_unlike_points) :=
  (pss_cons (ps_if (pt_not (pt_val (pe_callD g_is_triple (hr.mono (by decide)) (by rfl) (pa_cons (pv 1) pa_nil)))) (pss_one (ps_ret pe_bl)) pss_nil)
      (pss_cons (ps_asg (pv 1) (pg_rw rfl (pgs_cons (pg_name (i := 2) sc_is_wish.nd rfl (by first | exact .inl rfl | exact .inr rfl)) (pgs_cons (pg_name (i := 3) sc_is_wish.nd rfl (by first | exact .inl rfl | exact .inr rfl)) (pgs_cons (pg_name (i := 4) sc_is_wish.nd rfl (by first | exact .inl rfl | exact .inr rfl)) pgs_nil)))))
      (pss_one (ps_ret (pe_and (pe_callD g_are_unlike_points (hr.mono (by decide)) (by rfl) (pa_cons (pe_ix ix_seq (pv 0) pe_int (fun _ _ => rfl)) (pa_cons (pv 2) (pa_cons (pv 3) pa_nil)))) (pe_one (pe_callD g_is_number_of (hr.mono (by decide)) (by rfl) (pa_cons pe_int (pa_cons (pv 4) pa_nil)))))))))
def t_made_wishes (K : PySem.W.Frag) (C_CutError C_NoWeb C_NoSide C_NoWishes C_TooGreat : Addr) (Φ_is_row : Ph) (Φ_is_wish : Ph) : XK → TS := fun E => (tSeq (tIfS (tOr (tNot (L2.tB (tCall (SpD K Φ_is_row) [] E0 (tCons (tVar 1) tNil)))) (tTest (tOp rGtI (tCB (rLenQ K) (tCons (tVar 1) tNil)) (tC (.int 120))))) (tRs C_NoWishes E) tNext)
    (tSeq (tIfS (tNot (L2.tB (tCB (rAll K) (tCons (tLc (iRow K 1) (gName 2) tYes (tCall (SpD K Φ_is_wish) [] E0 (tCons (tVar 0) (tCons (tVar 2) tNil))) [2]) tNil)))) (tRs C_NoWishes E) tNext)
    (tRet (tCB (rTupQ K) (tCons (tLc (iRow K 1) (gName 2) tYes (tCB (rTupQ K) (tCons (tVar 2) tNil)) [2]) tNil)))))
theorem dv_made_wishes {f : Addr} {cdv : Value} {A : Around} {outer : List Env} {s : Shared} {H : Hp} {E : XK} (hr : Room 4 (A.deeper (envOfC "made_wishes" (defScope s_made_wishes) s.heap.objs.size f cdv))) (B : ∀ x, x ∈ blt → mg x = none) (cs : Csts mg) {C_CutError C_NoWeb C_NoSide C_NoWishes C_TooGreat : Addr} (cl : Cls K mg C_CutError C_NoWeb C_NoSide C_NoWishes C_TooGreat) {Φ_is_row : Ph} {Φ_is_wish : Ph} (g_is_row : Kn Pg w K mg base "is_row" 1 ["thing"] Φ_is_row) (g_is_wish : Kn Pg w K mg base "is_wish" 4 ["web", "thing"] Φ_is_wish) :
    PSs (cxOf (L2.CX Pg w) Pg w K mg base ["web", "thing", "wish"] "made_wishes" (defScope s_made_wishes) f cdv A outer s H E) (defBody s_made_wishes) (t_made_wishes K C_CutError C_NoWeb C_NoSide C_NoWishes C_TooGreat Φ_is_row Φ_is_wish E) :=
  (pss_cons (ps_if (PW.pt (pw_or (pt_not (pt_val (pe_callD g_is_row (hr.mono (by decide)) (by rfl) (pa_cons (pv 1) pa_nil)))) (pw_or1 (pt_cmpR op_gt (pe_callB call_len_seq (by rfl) (B "len" (by decide)) (by decide +kernel) (pa_cons (pv 1) pa_nil)) (pe_num rfl cs.c_MOST_WISHES) (nomark _))))) (pss_one (ps_raiseD cl.er_NoWishes rfl rfl rfl rfl rfl (by rfl))) pss_nil)
      (pss_cons (ps_if (pt_not (pt_val (pe_callB (cr_all rfl) (by rfl) (B "all" (by decide)) (by decide +kernel) (pa_cons (pe_lc (own := [("wish", 2)]) (g := (gName 2)) (tt := tYes) rfl sc_made_wishes.nd (pi_row (i := 1) (pv 1)) (blkOk_by (own := [("wish", 2)]) (N := ["web", "thing", "wish"]) (sc := defScope s_made_wishes) (by decide +kernel)) (fun _ _ _ _ _ => (pg_name (i := 2) sc_made_wishes.nd rfl (by first | exact .inl rfl | exact .inr rfl))) (fun _ _ _ _ _ => pts_nil) (fun _ _ _ _ _ => (pe_callD g_is_wish (hr.mono (by decide)) (by rfl) (pa_cons (pv 0) (pa_cons (pv 2) pa_nil))))) pa_nil)))) (pss_one (ps_raiseD cl.er_NoWishes rfl rfl rfl rfl rfl (by rfl))) pss_nil)
      (pss_one (ps_ret (pe_callTy call_tuple_of (by rfl) (B "tuple" (by decide)) (by decide +kernel) (pa_cons (pe_lc (own := [("wish", 2)]) (g := (gName 2)) (tt := tYes) rfl sc_made_wishes.nd (pi_row (i := 1) (pv 1)) (blkOk_by (own := [("wish", 2)]) (N := ["web", "thing", "wish"]) (sc := defScope s_made_wishes) (by decide +kernel)) (fun _ _ _ _ _ => (pg_name (i := 2) sc_made_wishes.nd rfl (by first | exact .inl rfl | exact .inr rfl))) (fun _ _ _ _ _ => pts_nil) (fun _ _ _ _ _ => (pe_callTy call_tuple_of (by rfl) (B "tuple" (by decide)) (by decide +kernel) (pa_cons (pv 2) pa_nil)))) pa_nil))))))
def t_grouped (K : PySem.W.Frag) (C_CutError C_NoWeb C_NoSide C_NoWishes C_TooGreat : Addr) (Φ_parted : Ph) (Φ_made_wishes : PhX) : XK → TS := fun E => (tRet (tCall (SpD K Φ_parted) [] E0 (tCons (tOp (rIx K) (tVar 0) (tC (.int 0))) (tCons (tCallS (SpX K C_NoWishes Φ_made_wishes) (WE (WO E)) (tCons (tVar 0) (tCons (tVar 1) tNil))) tNil))))
theorem dv_grouped {f : Addr} {cdv : Value} {A : Around} {outer : List Env} {s : Shared} {H : Hp} {E : XK} (hr : Room 5 (A.deeper (envOfC "grouped" (defScope s_grouped) s.heap.objs.size f cdv))) (B : ∀ x, x ∈ blt → mg x = none) (cs : Csts mg) {C_CutError C_NoWeb C_NoSide C_NoWishes C_TooGreat : Addr} (cl : Cls K mg C_CutError C_NoWeb C_NoSide C_NoWishes C_TooGreat) {Φ_parted : Ph} {Φ_made_wishes : PhX} (g_parted : Kn Pg w K mg base "parted" 3 ["many", "joins"] Φ_parted) (g_made_wishes : KnX Pg w K mg base "made_wishes" 5 ["web", "thing"] C_NoWishes Φ_made_wishes) :
    PSs (cxOf (L2.CX Pg w) Pg w K mg base ["web", "wishes"] "grouped" (defScope s_grouped) f cdv A outer s H E) (defBody s_grouped) (t_grouped K C_CutError C_NoWeb C_NoSide C_NoWishes C_TooGreat Φ_parted Φ_made_wishes E) :=
  (pss_one (ps_ret (pe_callD g_parted (hr.mono (by decide)) (by rfl) (pa_cons (pe_ix ix_seq (pv 0) pe_int (fun _ _ => rfl)) (pa_cons (pe_callX g_made_wishes (hr.mono (by decide)) (by rfl) (takes_of rfl rfl rfl rfl) (pa_cons (pv 0) (pa_cons (pv 1) pa_nil))) pa_nil)))))
def t_unlike_weights (K : PySem.W.Frag) : TS := (tRet (tLc (iTup K (tOp (rIx K) (tVar 0) (tC (.int 1)))) (gTup K 3 (gCons (gName 2) (gCons (gName 3) (gCons (gName 4) gNil)))) (tTest (tOp (rNeD K) (tOp (rIx K) (tVar 1) (tVar 2)) (tOp (rIx K) (tVar 1) (tVar 3)))) (tVar 4) [2, 3, 4]))
theorem dv_unlike_weights {f : Addr} {cdv : Value} {A : Around} {outer : List Env} {s : Shared} {H : Hp} {E : XK} (hr : Room 0 (A.deeper (envOfC "unlike_weights" (defScope s_unlike_weights) s.heap.objs.size f cdv))) (B : ∀ x, x ∈ blt → mg x = none) (cs : Csts mg) :
    PSs (cxOf CX0 Pg w K mg base ["web", "marks", "one", "other", "weight"] "unlike_weights" (defScope s_unlike_weights) f cdv A outer s H E).nox (defBody s_unlike_weights) (t_unlike_weights K) :=
  (pss_one (ps_ret (pe_lc (own := [("one", 2), ("other", 3), ("weight", 4)]) (g := (gTup K 3 (gCons (gName 2) (gCons (gName 3) (gCons (gName 4) gNil))))) (tt := (tTest (tOp (rNeD K) (tOp (rIx K) (tVar 1) (tVar 2)) (tOp (rIx K) (tVar 1) (tVar 3))))) rfl sc_unlike_weights.nd (pi_tup (pe_ix ix_seq (pv 0) pe_int (fun _ _ => rfl))) (blkOk_by (own := [("one", 2), ("other", 3), ("weight", 4)]) (N := ["web", "marks", "one", "other", "weight"]) (sc := defScope s_unlike_weights) (by decide +kernel)) (fun _ _ _ _ _ => (pg_tup rfl (pgs_cons (pg_name (i := 2) sc_unlike_weights.nd rfl (by first | exact .inl rfl | exact .inr rfl)) (pgs_cons (pg_name (i := 3) sc_unlike_weights.nd rfl (by first | exact .inl rfl | exact .inr rfl)) (pgs_cons (pg_name (i := 4) sc_unlike_weights.nd rfl (by first | exact .inl rfl | exact .inr rfl)) pgs_nil))))) (fun _ _ _ _ _ => (pts_one (pt_cmpR (op_neD hr.units) (pe_ix ix_seq (pv 1) (pv 2) (fun _ _ => rfl)) (pe_ix ix_seq (pv 1) (pv 3) (fun _ _ => rfl)) (nomark _)))) (fun _ _ _ _ _ => (pv 4)))))
def t_terms_between (K : PySem.W.Frag) : TS := (tSeq (tAsg tDNewT (gName 3))
    (tSeq (tLkA (tFor (iTup K (tOp (rIx K) (tVar 0) (tC (.int 1)))) (gTup K 3 (gCons (gName 4) (gCons (gName 5) (gCons (gTup K 2 (gCons (gName 6) (gCons (gName 7) gNil))) gNil)))) (tSeq (tAsg (tTup (tCons (tCB rMinI (tCons (tOp (rIx K) (tVar 1) (tVar 4)) (tCons (tOp (rIx K) (tVar 1) (tVar 5)) tNil))) (tCons (tCB rMaxI (tCons (tOp (rIx K) (tVar 1) (tVar 4)) (tCons (tOp (rIx K) (tVar 1) (tVar 5)) tNil))) tNil))) (gName 8))
    (tIfS (tTest (tOp (rNeD K) (tOp (rIx K) (tVar 8) (tC (.int 0))) (tOp (rIx K) (tVar 8) (tC (.int 1))))) (tDrop (tBM K "list" rAppend (tSetR (tVar 3) (tVar 8) (tLst tNil)) (tCons (tTup (tCons (tIf (tTest (tOp (rEqD K) (tOp (rIx K) (tVar 2) (tVar 4)) (tOp (rIx K) (tVar 2) (tVar 5)))) (tVar 6) (tUn rNegI (tVar 6))) (tCons (tVar 7) tNil))) tNil))) tNext))))
    (tRet (tVar 3))))
theorem dv_terms_between {f : Addr} {cdv : Value} {A : Around} {outer : List Env} {s : Shared} {H : Hp} {E : XK} (hr : Room 0 (A.deeper (envOfC "terms_between" (defScope s_terms_between) s.heap.objs.size f cdv))) (B : ∀ x, x ∈ blt → mg x = none) (cs : Csts mg) :
    PSs (cxOf CX0 Pg w K mg base ["web", "groups", "marks", "terms", "one", "other", "top", "bottom", "pair"] "terms_between" (defScope s_terms_between) f cdv A outer s H E).nox (defBody s_terms_between) (t_terms_between K) :=
  (pss_cons (ps_set (i := 3) sc_terms_between.nd rfl (by first | exact .inl rfl | exact .inr rfl) pe_dnewT)
      (pss_cons (ps_lkA (ps_for PassesOwn.never rfl (pi_tup (pe_ix ix_seq (pv 0) pe_int (fun _ _ => rfl))) (pg_tup rfl (pgs_cons (pg_name (i := 4) sc_terms_between.nd rfl (by first | exact .inl rfl | exact .inr rfl)) (pgs_cons (pg_name (i := 5) sc_terms_between.nd rfl (by first | exact .inl rfl | exact .inr rfl)) (pgs_cons (pg_tup rfl (pgs_cons (pg_name (i := 6) sc_terms_between.nd rfl (by first | exact .inl rfl | exact .inr rfl)) (pgs_cons (pg_name (i := 7) sc_terms_between.nd rfl (by first | exact .inl rfl | exact .inr rfl)) pgs_nil))) pgs_nil)))) (pss_cons (ps_set (i := 8) sc_terms_between.nd rfl (by first | exact .inl rfl | exact .inr rfl) (pe_tup (pa_cons (pe_callB (call_min2 rfl) (by rfl) (B "min" (by decide)) (by decide +kernel) (pa_cons (pe_ix ix_seq (pv 1) (pv 4) (fun _ _ => rfl)) (pa_cons (pe_ix ix_seq (pv 1) (pv 5) (fun _ _ => rfl)) pa_nil))) (pa_cons (pe_callB (call_max2 rfl) (by rfl) (B "max" (by decide)) (by decide +kernel) (pa_cons (pe_ix ix_seq (pv 1) (pv 4) (fun _ _ => rfl)) (pa_cons (pe_ix ix_seq (pv 1) (pv 5) (fun _ _ => rfl)) pa_nil))) pa_nil))))
      (pss_one (ps_if (pt_cmpR (op_neD hr.units) (pe_ix ix_seq (pv 8) pe_int (fun _ _ => rfl)) (pe_ix ix_seq (pv 8) pe_int (fun _ _ => rfl)) (nomark _)) (pss_one (ps_expr (pe_bm PySem.F.plainAttrs_list PySem.F.slot_list_append PySem.F.type_list_append mt_append (pe_setR (u1 hr) (pv 3) (pv 8) (pe_lst pa_nil) ⟨by rfl, by rfl, by rfl, by rfl⟩) (pa_cons (pe_tup (pa_cons (pe_ifExp (pt_cmpR (op_eqD hr.units) (pe_ix ix_seq (pv 2) (pv 4) (fun _ _ => rfl)) (pe_ix ix_seq (pv 2) (pv 5) (fun _ _ => rfl)) (nomark _)) (pv 6) (pe_un un_neg (pv 6))) (pa_cons (pv 7) pa_nil))) pa_nil)))) pss_nil)))))
      (pss_one (ps_ret (pv 3)))))
def t_glued (K : PySem.W.Frag) (C_CutError C_NoWeb C_NoSide C_NoWishes C_TooGreat : Addr) (Φ_grouped : PhY) (Φ_terms_between : Ph) (Φ_added : Ph) (Φ_is_weight : Ph) (Φ_unlike_weights : Ph) (Φ_made_web : PhX) : XK → TS := fun E => (tSeq (tAsg (tCallS (SpY K Φ_grouped) (WE (WO E)) (tCons (tVar 0) (tCons (tVar 1) tNil))) (gName 2))
    (tSeq (tIfS (tTest (tOp (rEqD K) (tOp (rIx K) (tVar 2) (tC (.int 0))) (tC (.str "ring")))) (tRet (tC .non)) tNext)
    (tSeq (tAsg (tVar 2) (gTup K 3 (gCons (gName 3) (gCons (gName 4) (gCons (gName 5) gNil)))))
    (tSeq (tAsg (tLc (iRows (tCall (SpD K Φ_terms_between) [] E0 (tCons (tVar 0) (tCons (tVar 4) (tCons (tVar 5) tNil))))) (gTup K 2 (gCons (gTup K 2 (gCons (gName 7) (gCons (gName 8) gNil))) (gCons (gName 9) gNil))) tYes (tTup (tCons (tVar 7) (tCons (tVar 8) (tCons (tCall (SpD K Φ_added) [] E0 (tCons (tVar 9) tNil)) tNil)))) [7, 8, 9]) (gName 6))
    (tSeq (tIfS (tNot (L2.tB (tCB (rAll K) (tCons (tLc (iList K (tVar 6)) (gTup K 3 (gCons (gName 7) (gCons (gName 8) (gCons (gName 10) gNil)))) tYes (tCall (SpD K Φ_is_weight) [] E0 (tCons (tVar 10) tNil)) [7, 8, 10]) tNil)))) (tRs C_TooGreat E) tNext)
    (tRet (tTup (tCons (tCall (SpX K C_NoWeb Φ_made_web) [] E0 (tCons (tOp rAddI (tCB (rMaxT K) (tCons (tVar 4) tNil)) (tC (.int 1))) (tCons (tVar 6) tNil))) (tCons (tCall (SpD K Φ_added) [] E0 (tCons (tCall (SpD K Φ_unlike_weights) [] E0 (tCons (tVar 0) (tCons (tVar 5) tNil))) tNil)) tNil)))))))))
theorem dv_glued {f : Addr} {cdv : Value} {A : Around} {outer : List Env} {s : Shared} {H : Hp} {E : XK} (hr : Room 6 (A.deeper (envOfC "glued" (defScope s_glued) s.heap.objs.size f cdv))) (B : ∀ x, x ∈ blt → mg x = none) (cs : Csts mg) {C_CutError C_NoWeb C_NoSide C_NoWishes C_TooGreat : Addr} (cl : Cls K mg C_CutError C_NoWeb C_NoSide C_NoWishes C_TooGreat) {Φ_grouped : PhY} {Φ_terms_between : Ph} {Φ_added : Ph} {Φ_is_weight : Ph} {Φ_unlike_weights : Ph} {Φ_made_web : PhX} (g_grouped : KnY Pg w K mg base "grouped" 6 ["web", "wishes"] Φ_grouped) (g_terms_between : Kn Pg w K mg base "terms_between" 1 ["web", "groups", "marks"] Φ_terms_between) (g_added : Kn Pg w K mg base "added" 4 ["terms"] Φ_added) (g_is_weight : Kn Pg w K mg base "is_weight" 3 ["thing"] Φ_is_weight) (g_unlike_weights : Kn Pg w K mg base "unlike_weights" 1 ["web", "marks"] Φ_unlike_weights) (g_made_web : KnX Pg w K mg base "made_web" 5 ["many", "ties"] C_NoWeb Φ_made_web) :
    PSs (cxOf (L2.CX Pg w) Pg w K mg base ["web", "wishes", "told", "name", "groups", "marks", "ties", "one", "other", "terms", "weight"] "glued" (defScope s_glued) f cdv A outer s H E) (defBody s_glued) (t_glued K C_CutError C_NoWeb C_NoSide C_NoWishes C_TooGreat Φ_grouped Φ_terms_between Φ_added Φ_is_weight Φ_unlike_weights Φ_made_web E) :=
  (pss_cons (ps_set (i := 2) sc_glued.nd rfl (by first | exact .inl rfl | exact .inr rfl) (pe_callY g_grouped (hr.mono (by decide)) (by rfl) (takes_of rfl rfl rfl rfl) (pa_cons (pv 0) (pa_cons (pv 1) pa_nil))))
      (pss_cons (ps_if (pt_cmpR (op_eqD hr.units) (pe_ix ix_seq (pv 2) pe_int (fun _ _ => rfl)) pe_str (nomark _)) (pss_one (ps_ret pe_non)) pss_nil)
      (pss_cons (ps_asg (pv 2) (pg_tup rfl (pgs_cons (pg_name (i := 3) sc_glued.nd rfl (by first | exact .inl rfl | exact .inr rfl)) (pgs_cons (pg_name (i := 4) sc_glued.nd rfl (by first | exact .inl rfl | exact .inr rfl)) (pgs_cons (pg_name (i := 5) sc_glued.nd rfl (by first | exact .inl rfl | exact .inr rfl)) pgs_nil)))))
      (pss_cons (ps_setLc (i := 6) (own := [("one", 7), ("other", 8), ("terms", 9)]) (g := (gTup K 2 (gCons (gTup K 2 (gCons (gName 7) (gCons (gName 8) gNil))) (gCons (gName 9) gNil)))) (tt := tYes) rfl sc_glued.nd rfl rfl (sw_true rfl rfl rfl (by decide +kernel)) (pi_rows (pe_callD g_terms_between (hr.mono (by decide)) (by rfl) (pa_cons (pv 0) (pa_cons (pv 4) (pa_cons (pv 5) pa_nil))))) (blkOk_by (own := [("one", 7), ("other", 8), ("terms", 9)]) (N := ["web", "wishes", "told", "name", "groups", "marks", "ties", "one", "other", "terms", "weight"]) (sc := defScope s_glued) (by decide +kernel)) (fun _ _ _ _ _ => (pg_tup rfl (pgs_cons (pg_tup rfl (pgs_cons (pg_name (i := 7) sc_glued.nd rfl (by first | exact .inl rfl | exact .inr rfl)) (pgs_cons (pg_name (i := 8) sc_glued.nd rfl (by first | exact .inl rfl | exact .inr rfl)) pgs_nil))) (pgs_cons (pg_name (i := 9) sc_glued.nd rfl (by first | exact .inl rfl | exact .inr rfl)) pgs_nil)))) (fun _ _ _ _ _ => pts_nil) (fun _ _ _ _ _ => (pe_tup (pa_cons (pv 7) (pa_cons (pv 8) (pa_cons (pe_callD g_added (hr.mono (by decide)) (by rfl) (pa_cons (pv 9) pa_nil)) pa_nil))))))
      (pss_cons (ps_if (pt_not (pt_val (pe_callB (cr_all rfl) (by rfl) (B "all" (by decide)) (by decide +kernel) (pa_cons (pe_lc (own := [("one", 7), ("other", 8), ("weight", 10)]) (g := (gTup K 3 (gCons (gName 7) (gCons (gName 8) (gCons (gName 10) gNil))))) (tt := tYes) rfl sc_glued.nd (pi_list (pv 6)) (blkOk_by (own := [("one", 7), ("other", 8), ("weight", 10)]) (N := ["web", "wishes", "told", "name", "groups", "marks", "ties", "one", "other", "terms", "weight"]) (sc := defScope s_glued) (by decide +kernel)) (fun _ _ _ _ _ => (pg_tup rfl (pgs_cons (pg_name (i := 7) sc_glued.nd rfl (by first | exact .inl rfl | exact .inr rfl)) (pgs_cons (pg_name (i := 8) sc_glued.nd rfl (by first | exact .inl rfl | exact .inr rfl)) (pgs_cons (pg_name (i := 10) sc_glued.nd rfl (by first | exact .inl rfl | exact .inr rfl)) pgs_nil))))) (fun _ _ _ _ _ => pts_nil) (fun _ _ _ _ _ => (pe_callD g_is_weight (hr.mono (by decide)) (by rfl) (pa_cons (pv 10) pa_nil)))) pa_nil)))) (pss_one (ps_raiseD cl.er_TooGreat rfl rfl rfl rfl rfl (by rfl))) pss_nil)
      (pss_one (ps_ret (pe_tup (pa_cons (pe_callX0 g_made_web (hr.mono (by decide)) (by rfl) (pa_cons (pe_op op_add (pe_callB (cr_maxT rfl (units65 hr)) (by rfl) (B "max" (by decide)) (by decide +kernel) (pa_cons (pv 4) pa_nil)) pe_int) (pa_cons (pv 6) pa_nil))) (pa_cons (pe_callD g_added (hr.mono (by decide)) (by rfl) (pa_cons (pe_callD g_unlike_weights (hr.mono (by decide)) (by rfl) (pa_cons (pv 0) (pa_cons (pv 5) pa_nil))) pa_nil)) pa_nil))))))))))
def t_led_back (K : PySem.W.Frag) (C_CutError C_NoWeb C_NoSide C_NoWishes C_TooGreat : Addr) (Φ_grouped : PhY) (Φ_side_of_bits : Ph) : XK → TS := fun E => (tSeq (tAsg (tCallS (SpY K Φ_grouped) (WE (WO E)) (tCons (tVar 0) (tCons (tVar 1) tNil))) (gName 3))
    (tSeq (tIfS (tTest (tOp (rEqD K) (tOp (rIx K) (tVar 3) (tC (.int 0))) (tC (.str "ring")))) (tRet (tC .non)) tNext)
    (tRet (tCall (SpD K Φ_side_of_bits) [] E0 (tCons (tVar 0) (tCons (tOp (rIx K) (tVar 3) (tC (.int 1))) (tCons (tOp (rIx K) (tVar 3) (tC (.int 2))) (tCons (tVar 2) tNil))))))))
theorem dv_led_back {f : Addr} {cdv : Value} {A : Around} {outer : List Env} {s : Shared} {H : Hp} {E : XK} (hr : Room 6 (A.deeper (envOfC "led_back" (defScope s_led_back) s.heap.objs.size f cdv))) (B : ∀ x, x ∈ blt → mg x = none) (cs : Csts mg) {C_CutError C_NoWeb C_NoSide C_NoWishes C_TooGreat : Addr} (cl : Cls K mg C_CutError C_NoWeb C_NoSide C_NoWishes C_TooGreat) {Φ_grouped : PhY} {Φ_side_of_bits : Ph} (g_grouped : KnY Pg w K mg base "grouped" 6 ["web", "wishes"] Φ_grouped) (g_side_of_bits : Kn Pg w K mg base "side_of_bits" 4 ["web", "groups", "marks", "bits"] Φ_side_of_bits) :
    PSs (cxOf (L2.CX Pg w) Pg w K mg base ["web", "wishes", "side", "told"] "led_back" (defScope s_led_back) f cdv A outer s H E) (defBody s_led_back) (t_led_back K C_CutError C_NoWeb C_NoSide C_NoWishes C_TooGreat Φ_grouped Φ_side_of_bits E) :=
  (pss_cons (ps_set (i := 3) sc_led_back.nd rfl (by first | exact .inl rfl | exact .inr rfl) (pe_callY g_grouped (hr.mono (by decide)) (by rfl) (takes_of rfl rfl rfl rfl) (pa_cons (pv 0) (pa_cons (pv 1) pa_nil))))
      (pss_cons (ps_if (pt_cmpR (op_eqD hr.units) (pe_ix ix_seq (pv 3) pe_int (fun _ _ => rfl)) pe_str (nomark _)) (pss_one (ps_ret pe_non)) pss_nil)
      (pss_one (ps_ret (pe_callD g_side_of_bits (hr.mono (by decide)) (by rfl) (pa_cons (pv 0) (pa_cons (pe_ix ix_seq (pv 3) pe_int (fun _ _ => rfl)) (pa_cons (pe_ix ix_seq (pv 3) pe_int (fun _ _ => rfl)) (pa_cons (pv 2) pa_nil)))))))))
def t__law_cell_at (K : PySem.W.Frag) : TS := (tSeq (tIfS (tTest (tOp rLtI (tVar 1) (tCB (rLenQ K) (tCons (tVar 0) tNil)))) (tRet (tOp (rIx K) (tVar 0) (tVar 1))) tNext)
    (tRet (tC (.int 0))))
theorem dv__law_cell_at {f : Addr} {cdv : Value} {A : Around} {outer : List Env} {s : Shared} {H : Hp} {E : XK} (hr : Room 0 (A.deeper (envOfC "_law_cell_at" (defScope s__law_cell_at) s.heap.objs.size f cdv))) (B : ∀ x, x ∈ blt → mg x = none) (cs : Csts mg) :
    PSs (cxOf CX0 Pg w K mg base ["_law_script", "_law_k"] "_law_cell_at" (defScope s__law_cell_at) f cdv A outer s H E).nox (defBody s__law_cell_at) (t__law_cell_at K) :=
  (pss_cons (ps_if (pt_cmpR op_lt (pv 1) (pe_callB call_len_seq (by rfl) (B "len" (by decide)) (by decide +kernel) (pa_cons (pv 0) pa_nil)) (nomark _)) (pss_one (ps_ret (pe_ix ix_seq (pv 0) (pv 1) (fun _ _ => rfl)))) pss_nil)
      (pss_one (ps_ret pe_int)))
def t__law_stream (K : PySem.W.Frag) : TS := (tSeq (tAsg (tLst tNil) (gName 2))
    (tSeq (tAsg (tCB rAbs (tCons (tVar 0) tNil)) (gName 3))
    (tSeq (tFor (iRng1 (tCons (tVar 1) tNil)) (gName 4) (tSeq (tDrop (tBM K "list" rAppend (tVar 2) (tCons (tOp rModN (tVar 3) (tC (.int 1000003))) tNil)))
    (tAsg (tOp rDivX (tVar 3) (tC (.int 1000003))) (gName 3))))
    (tSeq (tIfS (tTest (tOp rGtI (tVar 3) (tC (.int 0)))) (tRet (tVar 2)) tNext)
    (tSeq (tAsg (tLst tNil) (gName 5))
    (tSeq (tAsg (tOp rAddI (tOp rModN (tVar 0) (tC (.int 2147483647))) (tC (.int 48271))) (gName 6))
    (tSeq (tAsg (tOp rAddI (tOp rModN (tVar 0) (tC (.int 2147483629))) (tC (.int 16807))) (gName 7))
    (tSeq (tFor (iRng1 (tCons (tVar 1) tNil)) (gName 4) (tSeq (tAsg (tOp rModN (tOp rMulI (tVar 6) (tC (.int 48271))) (tC (.int 2147483647))) (gName 6))
    (tSeq (tAsg (tOp rModN (tOp rAddI (tOp rMulI (tVar 7) (tC (.int 69621))) (tVar 4)) (tC (.int 2147483629))) (gName 7))
    (tDrop (tBM K "list" rAppend (tVar 5) (tCons (tOp rDivX (tOp rAddI (tVar 6) (tVar 7)) (tC (.int 7))) tNil))))))
    (tRet (tVar 5))))))))))
theorem dv__law_stream {f : Addr} {cdv : Value} {A : Around} {outer : List Env} {s : Shared} {H : Hp} {E : XK} (hr : Room 0 (A.deeper (envOfC "_law_stream" (defScope s__law_stream) s.heap.objs.size f cdv))) (B : ∀ x, x ∈ blt → mg x = none) (cs : Csts mg) :
    PSs (cxOf CX0 Pg w K mg base ["_law_cell", "_law_many", "_law_digits", "_law_left", "_law_k", "_law_found", "_law_number", "_law_other"] "_law_stream" (defScope s__law_stream) f cdv A outer s H E).nox (defBody s__law_stream) (t__law_stream K) :=
  (pss_cons (ps_set (i := 2) sc__law_stream.nd rfl (by first | exact .inl rfl | exact .inr rfl) (pe_lst pa_nil))
      (pss_cons (ps_set (i := 3) sc__law_stream.nd rfl (by first | exact .inl rfl | exact .inr rfl) (pe_callB call_abs (by rfl) (B "abs" (by decide)) (by decide +kernel) (pa_cons (pv 0) pa_nil)))
      (pss_cons (ps_for PassesOwn.never rfl (pi_range1 (by rfl) (B "range" (by decide)) (pa_cons (pv 1) pa_nil)) (pg_name (i := 4) sc__law_stream.nd rfl (by first | exact .inl rfl | exact .inr rfl)) (pss_cons (ps_expr (pe_bm PySem.F.plainAttrs_list PySem.F.slot_list_append PySem.F.type_list_append mt_append (pv 2) (pa_cons (pe_op op_modN (pv 3) pe_int) pa_nil)))
      (pss_one (ps_set (i := 3) sc__law_stream.nd rfl (by first | exact .inl rfl | exact .inr rfl) (pe_op op_fdivX (pv 3) pe_int)))))
      (pss_cons (ps_if (pt_cmpR op_gt (pv 3) pe_int (nomark _)) (pss_one (ps_ret (pv 2))) pss_nil)
      (pss_cons (ps_set (i := 5) sc__law_stream.nd rfl (by first | exact .inl rfl | exact .inr rfl) (pe_lst pa_nil))
      (pss_cons (ps_set (i := 6) sc__law_stream.nd rfl (by first | exact .inl rfl | exact .inr rfl) (pe_op op_add (pe_op op_modN (pv 0) pe_int) pe_int))
      (pss_cons (ps_set (i := 7) sc__law_stream.nd rfl (by first | exact .inl rfl | exact .inr rfl) (pe_op op_add (pe_op op_modN (pv 0) pe_int) pe_int))
      (pss_cons (ps_for PassesOwn.never rfl (pi_range1 (by rfl) (B "range" (by decide)) (pa_cons (pv 1) pa_nil)) (pg_name (i := 4) sc__law_stream.nd rfl (by first | exact .inl rfl | exact .inr rfl)) (pss_cons (ps_set (i := 6) sc__law_stream.nd rfl (by first | exact .inl rfl | exact .inr rfl) (pe_op op_modN (pe_op op_mul (pv 6) pe_int) pe_int))
      (pss_cons (ps_set (i := 7) sc__law_stream.nd rfl (by first | exact .inl rfl | exact .inr rfl) (pe_op op_modN (pe_op op_add (pe_op op_mul (pv 7) pe_int) (pv 4)) pe_int))
      (pss_one (ps_expr (pe_bm PySem.F.plainAttrs_list PySem.F.slot_list_append PySem.F.type_list_append mt_append (pv 5) (pa_cons (pe_op op_fdivX (pe_op op_add (pv 6) (pv 7)) pe_int) pa_nil)))))))
      (pss_one (ps_ret (pv 5)))))))))))
def t__law_take (K : PySem.W.Frag) : TS := (tSeq (tIfS (tTest (tOp (rEqD K) (tCB (rLenQ K) (tCons (tVar 0) tNil)) (tC (.int 0)))) (tRet (tC (.int 0))) tNext)
    (tRet (tBM0 K "list" rPop (tVar 0))))
theorem dv__law_take {f : Addr} {cdv : Value} {A : Around} {outer : List Env} {s : Shared} {H : Hp} {E : XK} (hr : Room 0 (A.deeper (envOfC "_law_take" (defScope s__law_take) s.heap.objs.size f cdv))) (B : ∀ x, x ∈ blt → mg x = none) (cs : Csts mg) :
    PSs (cxOf CX0 Pg w K mg base ["_law_xs"] "_law_take" (defScope s__law_take) f cdv A outer s H E).nox (defBody s__law_take) (t__law_take K) :=
  (pss_cons (ps_if (pt_cmpR (op_eqD hr.units) (pe_callB call_len_seq (by rfl) (B "len" (by decide)) (by decide +kernel) (pa_cons (pv 0) pa_nil)) pe_int (nomark _)) (pss_one (ps_ret pe_int)) pss_nil)
      (pss_one (ps_ret (pe_bm0 PySem.F.plainAttrs_list PySem.F.slot_list_pop PySem.F.type_list_pop mt_pop (pv 0)))))
def t__law_reduced (K : PySem.W.Frag) : TS := (tSeq (tAsg (tCB rAbs (tCons (tVar 0) tNil)) (gName 2))
    (tSeq (tAsg (tVar 1) (gName 3))
    (tSeq (tWhile (tTest (tOp (rNeD K) (tVar 3) (tC (.int 0)))) (tPar 2 3 (tCons (tVar 3) (tCons (tOp rModN (tVar 2) (tVar 3)) tNil))))
    (tRet (tTup (tCons (tOp rDivX (tVar 0) (tVar 2)) (tCons (tOp rDivX (tVar 1) (tVar 2)) tNil)))))))
theorem dv__law_reduced {f : Addr} {cdv : Value} {A : Around} {outer : List Env} {s : Shared} {H : Hp} {E : XK} (hr : Room 0 (A.deeper (envOfC "_law_reduced" (defScope s__law_reduced) s.heap.objs.size f cdv))) (B : ∀ x, x ∈ blt → mg x = none) (cs : Csts mg) :
    PSs (cxOf CX0 Pg w K mg base ["_law_top", "_law_bottom", "_law_one", "_law_other"] "_law_reduced" (defScope s__law_reduced) f cdv A outer s H E).nox (defBody s__law_reduced) (t__law_reduced K) :=
  (pss_cons (ps_set (i := 2) sc__law_reduced.nd rfl (by first | exact .inl rfl | exact .inr rfl) (pe_callB call_abs (by rfl) (B "abs" (by decide)) (by decide +kernel) (pa_cons (pv 0) pa_nil)))
      (pss_cons (ps_set (i := 3) sc__law_reduced.nd rfl (by first | exact .inl rfl | exact .inr rfl) (pv 1))
      (pss_cons (ps_while PassesOwn.never (pt_cmpR (op_neD hr.units) (pv 3) pe_int (nomark _)) (pss_one (ps_par (by rfl) sc__law_reduced.nd (i := 2) (j := 3) rfl rfl (by decide) rfl rfl (pa_cons (pv 3) (pa_cons (pe_op op_modN (pv 2) (pv 3)) pa_nil)) (by rfl))))
      (pss_one (ps_ret (pe_tup (pa_cons (pe_op op_fdivX (pv 0) (pv 2)) (pa_cons (pe_op op_fdivX (pv 1) (pv 2)) pa_nil))))))))
def t__law_weight (K : PySem.W.Frag) (Φ__law_reduced : Ph) : TS := (tSeq (tAsg (tOp rModN (tVar 0) (tC (.int 8))) (gName 1))
    (tSeq (tAsg (tOp rDivX (tVar 0) (tC (.int 8))) (gName 0))
    (tSeq (tIfS (tTest (tOp (rEqD K) (tVar 1) (tC (.int 0)))) (tRet (tTup (tCons (tC (.int 0)) (tCons (tC (.int 1)) tNil)))) tNext)
    (tSeq (tIfS (tTest (tOp rLtI (tVar 1) (tC (.int 4)))) (tRet (tTup (tCons (tOp rSubI (tOp rModN (tVar 0) (tC (.int 9))) (tC (.int 4))) (tCons (tC (.int 1)) tNil)))) tNext)
    (tSeq (tIfS (tTest (tOp rLtI (tVar 1) (tC (.int 7)))) (tRet (tCall (SpD K Φ__law_reduced) [] E0 (tCons (tOp rSubI (tOp rModN (tVar 0) (tC (.int 13))) (tC (.int 6))) (tCons (tOp rAddI (tC (.int 1)) (tOp rModN (tOp rDivX (tVar 0) (tC (.int 13))) (tC (.int 4)))) tNil)))) tNext)
    (tSeq (tAsg (tOp rSubI (tOp rPowI (tC (.int 10)) (tC (.int 9))) (tOp rModN (tOp rDivX (tVar 0) (tC (.int 2))) (tC (.int 3)))) (gName 2))
    (tSeq (tIfS (tTest (tOp (rEqD K) (tOp rModN (tVar 0) (tC (.int 2))) (tC (.int 0)))) (tAsg (tOp rSubI (tC (.int 0)) (tVar 2)) (gName 2)) tNext)
    (tRet (tCall (SpD K Φ__law_reduced) [] E0 (tCons (tVar 2) (tCons (tOp rSubI (tC (.int 1000)) (tOp rModN (tOp rDivX (tVar 0) (tC (.int 6))) (tC (.int 4)))) tNil)))))))))))
theorem dv__law_weight {f : Addr} {cdv : Value} {A : Around} {outer : List Env} {s : Shared} {H : Hp} {E : XK} (hr : Room 1 (A.deeper (envOfC "_law_weight" (defScope s__law_weight) s.heap.objs.size f cdv))) (B : ∀ x, x ∈ blt → mg x = none) (cs : Csts mg) {Φ__law_reduced : Ph} (g__law_reduced : Kn Pg w K mg base "_law_reduced" 1 ["_law_top", "_law_bottom"] Φ__law_reduced) :
    PSs (cxOf CX0 Pg w K mg base ["_law_number", "_law_way", "_law_far"] "_law_weight" (defScope s__law_weight) f cdv A outer s H E).nox (defBody s__law_weight) (t__law_weight K Φ__law_reduced) :=
  (pss_cons (ps_set (i := 1) sc__law_weight.nd rfl (by first | exact .inl rfl | exact .inr rfl) (pe_op op_modN (pv 0) pe_int))
      (pss_cons (ps_set (i := 0) sc__law_weight.nd rfl (by first | exact .inl rfl | exact .inr rfl) (pe_op op_fdivX (pv 0) pe_int))
      (pss_cons (ps_if (pt_cmpR (op_eqD hr.units) (pv 1) pe_int (nomark _)) (pss_one (ps_ret (pe_tup (pa_cons pe_int (pa_cons pe_int pa_nil))))) pss_nil)
      (pss_cons (ps_if (pt_cmpR op_lt (pv 1) pe_int (nomark _)) (pss_one (ps_ret (pe_tup (pa_cons (pe_op op_sub (pe_op op_modN (pv 0) pe_int) pe_int) (pa_cons pe_int pa_nil))))) pss_nil)
      (pss_cons (ps_if (pt_cmpR op_lt (pv 1) pe_int (nomark _)) (pss_one (ps_ret (pe_callD g__law_reduced (hr.mono (by decide)) (by rfl) (pa_cons (pe_op op_sub (pe_op op_modN (pv 0) pe_int) pe_int) (pa_cons (pe_op op_add pe_int (pe_op op_modN (pe_op op_fdivX (pv 0) pe_int) pe_int)) pa_nil))))) pss_nil)
      (pss_cons (ps_set (i := 2) sc__law_weight.nd rfl (by first | exact .inl rfl | exact .inr rfl) (pe_op op_sub (pe_op op_pow pe_int pe_int) (pe_op op_modN (pe_op op_fdivX (pv 0) pe_int) pe_int)))
      (pss_cons (ps_if (pt_cmpR (op_eqD hr.units) (pe_op op_modN (pv 0) pe_int) pe_int (nomark _)) (pss_one (ps_set (i := 2) sc__law_weight.nd rfl (by first | exact .inl rfl | exact .inr rfl) (pe_op op_sub pe_int (pv 2)))) pss_nil)
      (pss_one (ps_ret (pe_callD g__law_reduced (hr.mono (by decide)) (by rfl) (pa_cons (pv 2) (pa_cons (pe_op op_sub pe_int (pe_op op_modN (pe_op op_fdivX (pv 0) pe_int) pe_int)) pa_nil))))))))))))
def t__law_web (K : PySem.W.Frag) (Φ__law_take : Ph) (Φ__law_weight : Ph) : TS := (tSeq (tAsg (tOp rAddI (tC (.int 1)) (tOp rModN (tCall (SpD K Φ__law_take) [] E0 (tCons (tVar 0) tNil)) (tVar 1))) (gName 2))
    (tSeq (tAsg (tOp rModN (tCall (SpD K Φ__law_take) [] E0 (tCons (tVar 0) tNil)) (tC (.int 6))) (gName 3))
    (tSeq (tAsg (tLst tNil) (gName 4))
    (tSeq (tFor (iRng1 (tCons (tVar 2) tNil)) (gName 5) (tFor (iRng2 (tCons (tOp rAddI (tVar 5) (tC (.int 1))) (tCons (tVar 2) tNil))) (gName 6) (tSeq (tAsg (tCall (SpD K Φ__law_take) [] E0 (tCons (tVar 0) tNil)) (gName 7))
    (tIfS (tTest (tOp rLeI (tOp rModN (tVar 7) (tC (.int 6))) (tVar 3))) (tDrop (tBM K "list" rAppend (tVar 4) (tCons (tTup (tCons (tVar 5) (tCons (tVar 6) (tCons (tCall (SpD K Φ__law_weight) [] E0 (tCons (tOp rDivX (tVar 7) (tC (.int 6))) tNil)) tNil)))) tNil))) tNext))))
    (tRet (tTup (tCons (tVar 2) (tCons (tCB (rTupQ K) (tCons (tVar 4) tNil)) tNil))))))))
theorem dv__law_web {f : Addr} {cdv : Value} {A : Around} {outer : List Env} {s : Shared} {H : Hp} {E : XK} (hr : Room 2 (A.deeper (envOfC "_law_web" (defScope s__law_web) s.heap.objs.size f cdv))) (B : ∀ x, x ∈ blt → mg x = none) (cs : Csts mg) {Φ__law_take : Ph} {Φ__law_weight : Ph} (g__law_take : Kn Pg w K mg base "_law_take" 1 ["_law_xs"] Φ__law_take) (g__law_weight : Kn Pg w K mg base "_law_weight" 2 ["_law_number"] Φ__law_weight) :
    PSs (cxOf CX0 Pg w K mg base ["_law_xs", "_law_most", "_law_many", "_law_share", "_law_ties", "_law_a", "_law_b", "_law_number"] "_law_web" (defScope s__law_web) f cdv A outer s H E).nox (defBody s__law_web) (t__law_web K Φ__law_take Φ__law_weight) :=
  (pss_cons (ps_set (i := 2) sc__law_web.nd rfl (by first | exact .inl rfl | exact .inr rfl) (pe_op op_add pe_int (pe_op op_modN (pe_callD g__law_take (hr.mono (by decide)) (by rfl) (pa_cons (pv 0) pa_nil)) (pv 1))))
      (pss_cons (ps_set (i := 3) sc__law_web.nd rfl (by first | exact .inl rfl | exact .inr rfl) (pe_op op_modN (pe_callD g__law_take (hr.mono (by decide)) (by rfl) (pa_cons (pv 0) pa_nil)) pe_int))
      (pss_cons (ps_set (i := 4) sc__law_web.nd rfl (by first | exact .inl rfl | exact .inr rfl) (pe_lst pa_nil))
      (pss_cons (ps_for PassesOwn.never rfl (pi_range1 (by rfl) (B "range" (by decide)) (pa_cons (pv 2) pa_nil)) (pg_name (i := 5) sc__law_web.nd rfl (by first | exact .inl rfl | exact .inr rfl)) (pss_one (ps_for PassesOwn.never rfl (pi_range2 (by rfl) (B "range" (by decide)) (pa_cons (pe_op op_add (pv 5) pe_int) (pa_cons (pv 2) pa_nil))) (pg_name (i := 6) sc__law_web.nd rfl (by first | exact .inl rfl | exact .inr rfl)) (pss_cons (ps_set (i := 7) sc__law_web.nd rfl (by first | exact .inl rfl | exact .inr rfl) (pe_callD g__law_take (hr.mono (by decide)) (by rfl) (pa_cons (pv 0) pa_nil)))
      (pss_one (ps_if (pt_cmpR op_le (pe_op op_modN (pv 7) pe_int) (pv 3) (nomark _)) (pss_one (ps_expr (pe_bm PySem.F.plainAttrs_list PySem.F.slot_list_append PySem.F.type_list_append mt_append (pv 4) (pa_cons (pe_tup (pa_cons (pv 5) (pa_cons (pv 6) (pa_cons (pe_callD g__law_weight (hr.mono (by decide)) (by rfl) (pa_cons (pe_op op_fdivX (pv 7) pe_int) pa_nil)) pa_nil)))) pa_nil)))) pss_nil))))))
      (pss_one (ps_ret (pe_tup (pa_cons (pv 2) (pa_cons (pe_callTy call_tuple_of (by rfl) (B "tuple" (by decide)) (by decide +kernel) (pa_cons (pv 4) pa_nil)) pa_nil)))))))))
def t__law_groups (K : PySem.W.Frag) : TS := (tSeq (tAsg (tLc (iRng1 (tCons (tVar 0) tNil)) (gName 3) tYes (tUn rNegI (tC (.int 1))) [3]) (gName 2))
    (tSeq (tAsg (tLc (iRng1 (tCons (tVar 0) tNil)) (gName 3) tYes (tC (.int 0)) [3]) (gName 4))
    (tSeq (tAsg (tC (.int 0)) (gName 5))
    (tSeq (tFor (iRng1 (tCons (tVar 0) tNil)) (gName 6) (tIfS (tTest (tOp rLtI (tOp (rIx K) (tVar 2) (tVar 6)) (tC (.int 0)))) (tSeq (tAsg (tVar 5) (gSub (tVar 2) (tVar 6) rSetL))
    (tSeq (tAug 5 (tC (.int 1)) (ipI fun i j => i + j))
    (tSeq (tAsg (tLst (tCons (tVar 6) tNil)) (gName 7))
    (tWhile (tTest (tOp (rNeD K) (tVar 7) (tLst tNil))) (tSeq (tAsg (tBM0 K "list" rPop (tVar 7)) (gName 3))
    (tFor (iList K (tVar 1)) (gTup K 3 (gCons (gName 8) (gCons (gName 9) (gCons (gName 10) gNil)))) (tFor (iList K (tLst (tCons (tTup (tCons (tVar 8) (tCons (tVar 9) tNil))) (tCons (tTup (tCons (tVar 9) (tCons (tVar 8) tNil))) tNil)))) (gTup K 2 (gCons (gName 11) (gCons (gName 12) gNil))) (tSeq (tAsg (tOp rModN (tOp rAddI (tOp (rIx K) (tVar 4) (tVar 3)) (tVar 10)) (tC (.int 2))) (gName 13))
    (tIfS (tAnd (tTest (tOp (rEqD K) (tVar 11) (tVar 3))) (tTest (tOp rLtI (tOp (rIx K) (tVar 2) (tVar 12)) (tC (.int 0))))) (tSeq (tAsg (tOp (rIx K) (tVar 2) (tVar 3)) (gSub (tVar 2) (tVar 12) rSetL))
    (tSeq (tAsg (tVar 13) (gSub (tVar 4) (tVar 12) rSetL))
    (tDrop (tBM K "list" rAppend (tVar 7) (tCons (tVar 12) tNil))))) (tIfS (tAnd (tTest (tOp (rEqD K) (tVar 11) (tVar 3))) (tTest (tOp (rNeD K) (tOp (rIx K) (tVar 4) (tVar 12)) (tVar 13)))) (tRet (tC .non)) tNext)))))))))) tNext))
    (tRet (tTup (tCons (tVar 2) (tCons (tVar 4) tNil))))))))
theorem dv__law_groups {f : Addr} {cdv : Value} {A : Around} {outer : List Env} {s : Shared} {H : Hp} {E : XK} (hr : Room 0 (A.deeper (envOfC "_law_groups" (defScope s__law_groups) s.heap.objs.size f cdv))) (B : ∀ x, x ∈ blt → mg x = none) (cs : Csts mg) :
    PSs (cxOf CX0 Pg w K mg base ["_law_many", "_law_wishes_here", "_law_groups_here", "_law_point", "_law_marks", "_law_count", "_law_first", "_law_waiting", "_law_a", "_law_b", "_law_apart", "_law_one", "_law_other", "_law_mark"] "_law_groups" (defScope s__law_groups) f cdv A outer s H E).nox (defBody s__law_groups) (t__law_groups K) :=
  (pss_cons (ps_setLc (i := 2) (own := [("_law_point", 3)]) (g := (gName 3)) (tt := tYes) rfl sc__law_groups.nd rfl rfl (sw_true rfl rfl rfl (by decide +kernel)) (pi_range1 (by rfl) (B "range" (by decide)) (pa_cons (pv 0) pa_nil)) (blkOk_by (own := [("_law_point", 3)]) (N := ["_law_many", "_law_wishes_here", "_law_groups_here", "_law_point", "_law_marks", "_law_count", "_law_first", "_law_waiting", "_law_a", "_law_b", "_law_apart", "_law_one", "_law_other", "_law_mark"]) (sc := defScope s__law_groups) (by decide +kernel)) (fun _ _ _ _ _ => (pg_name (i := 3) sc__law_groups.nd rfl (by first | exact .inl rfl | exact .inr rfl))) (fun _ _ _ _ _ => pts_nil) (fun _ _ _ _ _ => (pe_un un_neg pe_int)))
      (pss_cons (ps_setLc (i := 4) (own := [("_law_point", 3)]) (g := (gName 3)) (tt := tYes) rfl sc__law_groups.nd rfl rfl (sw_true rfl rfl rfl (by decide +kernel)) (pi_range1 (by rfl) (B "range" (by decide)) (pa_cons (pv 0) pa_nil)) (blkOk_by (own := [("_law_point", 3)]) (N := ["_law_many", "_law_wishes_here", "_law_groups_here", "_law_point", "_law_marks", "_law_count", "_law_first", "_law_waiting", "_law_a", "_law_b", "_law_apart", "_law_one", "_law_other", "_law_mark"]) (sc := defScope s__law_groups) (by decide +kernel)) (fun _ _ _ _ _ => (pg_name (i := 3) sc__law_groups.nd rfl (by first | exact .inl rfl | exact .inr rfl))) (fun _ _ _ _ _ => pts_nil) (fun _ _ _ _ _ => pe_int))
      (pss_cons (ps_set (i := 5) sc__law_groups.nd rfl (by first | exact .inl rfl | exact .inr rfl) pe_int)
      (pss_cons (ps_for PassesOwn.never rfl (pi_range1 (by rfl) (B "range" (by decide)) (pa_cons (pv 0) pa_nil)) (pg_name (i := 6) sc__law_groups.nd rfl (by first | exact .inl rfl | exact .inr rfl)) (pss_one (ps_if (pt_cmpR op_lt (pe_ix ix_seq (pv 2) (pv 6) (fun _ _ => rfl)) pe_int (nomark _)) (pss_cons (ps_asg (pv 5) (pg_sub (pv 2) (pv 6) set_list))
      (pss_cons (ps_aug (i := 5) sc__law_groups.nd rfl (by first | exact .inl rfl | exact .inr rfl) pe_int ip_add)
      (pss_cons (ps_set (i := 7) sc__law_groups.nd rfl (by first | exact .inl rfl | exact .inr rfl) (pe_lst (pa_cons (pv 6) pa_nil)))
      (pss_one (ps_while PassesOwn.never (pt_cmpR (op_neD hr.units) (pv 7) (pe_lst pa_nil) (nomark _)) (pss_cons (ps_set (i := 3) sc__law_groups.nd rfl (by first | exact .inl rfl | exact .inr rfl) (pe_bm0 PySem.F.plainAttrs_list PySem.F.slot_list_pop PySem.F.type_list_pop mt_pop (pv 7)))
      (pss_one (ps_for PassesOwn.never rfl (pi_list (pv 1)) (pg_tup rfl (pgs_cons (pg_name (i := 8) sc__law_groups.nd rfl (by first | exact .inl rfl | exact .inr rfl)) (pgs_cons (pg_name (i := 9) sc__law_groups.nd rfl (by first | exact .inl rfl | exact .inr rfl)) (pgs_cons (pg_name (i := 10) sc__law_groups.nd rfl (by first | exact .inl rfl | exact .inr rfl)) pgs_nil)))) (pss_one (ps_for PassesOwn.never rfl (pi_list (pe_lst (pa_cons (pe_tup (pa_cons (pv 8) (pa_cons (pv 9) pa_nil))) (pa_cons (pe_tup (pa_cons (pv 9) (pa_cons (pv 8) pa_nil))) pa_nil)))) (pg_tup rfl (pgs_cons (pg_name (i := 11) sc__law_groups.nd rfl (by first | exact .inl rfl | exact .inr rfl)) (pgs_cons (pg_name (i := 12) sc__law_groups.nd rfl (by first | exact .inl rfl | exact .inr rfl)) pgs_nil))) (pss_cons (ps_set (i := 13) sc__law_groups.nd rfl (by first | exact .inl rfl | exact .inr rfl) (pe_op op_modN (pe_op op_add (pe_ix ix_seq (pv 4) (pv 3) (fun _ _ => rfl)) (pv 10)) pe_int))
      (pss_one (ps_if (PW.pt (pw_and (pt_cmpR (op_eqD hr.units) (pv 11) (pv 3) (nomark _)) (pw_and1 (pt_cmpR op_lt (pe_ix ix_seq (pv 2) (pv 12) (fun _ _ => rfl)) pe_int (nomark _))))) (pss_cons (ps_asg (pe_ix ix_seq (pv 2) (pv 3) (fun _ _ => rfl)) (pg_sub (pv 2) (pv 12) set_list))
      (pss_cons (ps_asg (pv 13) (pg_sub (pv 4) (pv 12) set_list))
      (pss_one (ps_expr (pe_bm PySem.F.plainAttrs_list PySem.F.slot_list_append PySem.F.type_list_append mt_append (pv 7) (pa_cons (pv 12) pa_nil)))))) (pss_one (ps_if (PW.pt (pw_and (pt_cmpR (op_eqD hr.units) (pv 11) (pv 3) (nomark _)) (pw_and1 (pt_cmpR (op_neD hr.units) (pe_ix ix_seq (pv 4) (pv 12) (fun _ _ => rfl)) (pv 13) (nomark _))))) (pss_one (ps_ret pe_non)) pss_nil))))))))))))))) pss_nil)))
      (pss_one (ps_ret (pe_tup (pa_cons (pv 2) (pa_cons (pv 4) pa_nil)))))))))
def t__law_wishes (K : PySem.W.Frag) (Φ__law_take : Ph) : TS := (tSeq (tAsg (tLst tNil) (gName 2))
    (tSeq (tAsg (tCall (SpD K Φ__law_take) [] E0 (tCons (tVar 1) tNil)) (gName 3))
    (tSeq (tIfS (tTest (tOp rLtI (tVar 0) (tC (.int 2)))) (tRet (tVar 2)) tNext)
    (tSeq (tFor (iRng1 (tCons (tOp rModN (tCall (SpD K Φ__law_take) [] E0 (tCons (tVar 1) tNil)) (tC (.int 6))) tNil)) (gName 4) (tSeq (tAsg (tCall (SpD K Φ__law_take) [] E0 (tCons (tVar 1) tNil)) (gName 5))
    (tSeq (tAsg (tOp rModN (tVar 5) (tVar 0)) (gName 6))
    (tSeq (tAsg (tOp rModN (tOp rAddI (tOp rAddI (tVar 6) (tC (.int 1))) (tOp rModN (tOp rDivX (tVar 5) (tVar 0)) (tOp rSubI (tVar 0) (tC (.int 1))))) (tVar 0)) (gName 7))
    (tSeq (tAsg (tOp rModN (tOp rAddI (tOp rShrI (tVar 3) (tVar 6)) (tOp rShrI (tVar 3) (tVar 7))) (tC (.int 2))) (gName 8))
    (tSeq (tIfS (tTest (tOp (rEqD K) (tOp rModN (tOp rDivX (tVar 5) (tC (.int 60))) (tC (.int 9))) (tC (.int 0)))) (tAsg (tOp rSubI (tC (.int 1)) (tVar 8)) (gName 8)) tNext)
    (tDrop (tBM K "list" rAppend (tVar 2) (tCons (tTup (tCons (tVar 6) (tCons (tVar 7) (tCons (tVar 8) tNil)))) tNil)))))))))
    (tRet (tVar 2))))))
theorem dv__law_wishes {f : Addr} {cdv : Value} {A : Around} {outer : List Env} {s : Shared} {H : Hp} {E : XK} (hr : Room 1 (A.deeper (envOfC "_law_wishes" (defScope s__law_wishes) s.heap.objs.size f cdv))) (B : ∀ x, x ∈ blt → mg x = none) (cs : Csts mg) {Φ__law_take : Ph} (g__law_take : Kn Pg w K mg base "_law_take" 1 ["_law_xs"] Φ__law_take) :
    PSs (cxOf CX0 Pg w K mg base ["_law_many", "_law_xs", "_law_wishes_here", "_law_hidden", "_law_k", "_law_number", "_law_a", "_law_b", "_law_apart"] "_law_wishes" (defScope s__law_wishes) f cdv A outer s H E).nox (defBody s__law_wishes) (t__law_wishes K Φ__law_take) :=
  (pss_cons (ps_set (i := 2) sc__law_wishes.nd rfl (by first | exact .inl rfl | exact .inr rfl) (pe_lst pa_nil))
      (pss_cons (ps_set (i := 3) sc__law_wishes.nd rfl (by first | exact .inl rfl | exact .inr rfl) (pe_callD g__law_take (hr.mono (by decide)) (by rfl) (pa_cons (pv 1) pa_nil)))
      (pss_cons (ps_if (pt_cmpR op_lt (pv 0) pe_int (nomark _)) (pss_one (ps_ret (pv 2))) pss_nil)
      (pss_cons (ps_for PassesOwn.never rfl (pi_range1 (by rfl) (B "range" (by decide)) (pa_cons (pe_op op_modN (pe_callD g__law_take (hr.mono (by decide)) (by rfl) (pa_cons (pv 1) pa_nil)) pe_int) pa_nil)) (pg_name (i := 4) sc__law_wishes.nd rfl (by first | exact .inl rfl | exact .inr rfl)) (pss_cons (ps_set (i := 5) sc__law_wishes.nd rfl (by first | exact .inl rfl | exact .inr rfl) (pe_callD g__law_take (hr.mono (by decide)) (by rfl) (pa_cons (pv 1) pa_nil)))
      (pss_cons (ps_set (i := 6) sc__law_wishes.nd rfl (by first | exact .inl rfl | exact .inr rfl) (pe_op op_modN (pv 5) (pv 0)))
      (pss_cons (ps_set (i := 7) sc__law_wishes.nd rfl (by first | exact .inl rfl | exact .inr rfl) (pe_op op_modN (pe_op op_add (pe_op op_add (pv 6) pe_int) (pe_op op_modN (pe_op op_fdivX (pv 5) (pv 0)) (pe_op op_sub (pv 0) pe_int))) (pv 0)))
      (pss_cons (ps_set (i := 8) sc__law_wishes.nd rfl (by first | exact .inl rfl | exact .inr rfl) (pe_op op_modN (pe_op op_add (pe_op op_shr (pv 3) (pv 6)) (pe_op op_shr (pv 3) (pv 7))) pe_int))
      (pss_cons (ps_if (pt_cmpR (op_eqD hr.units) (pe_op op_modN (pe_op op_fdivX (pv 5) pe_int) pe_int) pe_int (nomark _)) (pss_one (ps_set (i := 8) sc__law_wishes.nd rfl (by first | exact .inl rfl | exact .inr rfl) (pe_op op_sub pe_int (pv 8)))) pss_nil)
      (pss_one (ps_expr (pe_bm PySem.F.plainAttrs_list PySem.F.slot_list_append PySem.F.type_list_append mt_append (pv 2) (pa_cons (pe_tup (pa_cons (pv 6) (pa_cons (pv 7) (pa_cons (pv 8) pa_nil)))) pa_nil))))))))))
      (pss_one (ps_ret (pv 2)))))))
def t__law_plus (K : PySem.W.Frag) (Φ__law_reduced : Ph) : TS := (tRet (tCall (SpD K Φ__law_reduced) [] E0 (tCons (tOp rAddI (tOp rMulX (tOp (rIx K) (tVar 0) (tC (.int 0))) (tOp (rIx K) (tVar 1) (tC (.int 1)))) (tOp rMulX (tOp (rIx K) (tVar 1) (tC (.int 0))) (tOp (rIx K) (tVar 0) (tC (.int 1))))) (tCons (tOp rMulX (tOp (rIx K) (tVar 0) (tC (.int 1))) (tOp (rIx K) (tVar 1) (tC (.int 1)))) tNil))))
theorem dv__law_plus {f : Addr} {cdv : Value} {A : Around} {outer : List Env} {s : Shared} {H : Hp} {E : XK} (hr : Room 1 (A.deeper (envOfC "_law_plus" (defScope s__law_plus) s.heap.objs.size f cdv))) (B : ∀ x, x ∈ blt → mg x = none) (cs : Csts mg) {Φ__law_reduced : Ph} (g__law_reduced : Kn Pg w K mg base "_law_reduced" 1 ["_law_top", "_law_bottom"] Φ__law_reduced) :
    PSs (cxOf CX0 Pg w K mg base ["_law_one", "_law_other"] "_law_plus" (defScope s__law_plus) f cdv A outer s H E).nox (defBody s__law_plus) (t__law_plus K Φ__law_reduced) :=
  (pss_one (ps_ret (pe_callD g__law_reduced (hr.mono (by decide)) (by rfl) (pa_cons (pe_op op_add (pe_op op_mulX (pe_ix ix_seq (pv 0) pe_int (fun _ _ => rfl)) (pe_ix ix_seq (pv 1) pe_int (fun _ _ => rfl))) (pe_op op_mulX (pe_ix ix_seq (pv 1) pe_int (fun _ _ => rfl)) (pe_ix ix_seq (pv 0) pe_int (fun _ _ => rfl)))) (pa_cons (pe_op op_mulX (pe_ix ix_seq (pv 0) pe_int (fun _ _ => rfl)) (pe_ix ix_seq (pv 1) pe_int (fun _ _ => rfl))) pa_nil)))))
def t__law_weight_of (K : PySem.W.Frag) (Φ__law_plus : Ph) : TS := (tSeq (tAsg (tTup (tCons (tC (.int 0)) (tCons (tC (.int 1)) tNil))) (gName 2))
    (tSeq (tFor (iTup K (tOp (rIx K) (tVar 0) (tC (.int 1)))) (gTup K 3 (gCons (gName 3) (gCons (gName 4) (gCons (gName 5) gNil)))) (tIfS (tTest (tOp (rNeD K) (tOp (rIx K) (tVar 1) (tVar 3)) (tOp (rIx K) (tVar 1) (tVar 4)))) (tAsg (tCall (SpD K Φ__law_plus) [] E0 (tCons (tVar 2) (tCons (tVar 5) tNil))) (gName 2)) tNext))
    (tRet (tVar 2))))
theorem dv__law_weight_of {f : Addr} {cdv : Value} {A : Around} {outer : List Env} {s : Shared} {H : Hp} {E : XK} (hr : Room 2 (A.deeper (envOfC "_law_weight_of" (defScope s__law_weight_of) s.heap.objs.size f cdv))) (B : ∀ x, x ∈ blt → mg x = none) (cs : Csts mg) {Φ__law_plus : Ph} (g__law_plus : Kn Pg w K mg base "_law_plus" 2 ["_law_one", "_law_other"] Φ__law_plus) :
    PSs (cxOf CX0 Pg w K mg base ["_law_web_here", "_law_bits", "_law_total", "_law_a", "_law_b", "_law_weight_here"] "_law_weight_of" (defScope s__law_weight_of) f cdv A outer s H E).nox (defBody s__law_weight_of) (t__law_weight_of K Φ__law_plus) :=
  (pss_cons (ps_set (i := 2) sc__law_weight_of.nd rfl (by first | exact .inl rfl | exact .inr rfl) (pe_tup (pa_cons pe_int (pa_cons pe_int pa_nil))))
      (pss_cons (ps_for PassesOwn.never rfl (pi_tup (pe_ix ix_seq (pv 0) pe_int (fun _ _ => rfl))) (pg_tup rfl (pgs_cons (pg_name (i := 3) sc__law_weight_of.nd rfl (by first | exact .inl rfl | exact .inr rfl)) (pgs_cons (pg_name (i := 4) sc__law_weight_of.nd rfl (by first | exact .inl rfl | exact .inr rfl)) (pgs_cons (pg_name (i := 5) sc__law_weight_of.nd rfl (by first | exact .inl rfl | exact .inr rfl)) pgs_nil)))) (pss_one (ps_if (pt_cmpR (op_neD hr.units) (pe_ix ix_seq (pv 1) (pv 3) (fun _ _ => rfl)) (pe_ix ix_seq (pv 1) (pv 4) (fun _ _ => rfl)) (nomark _)) (pss_one (ps_set (i := 2) sc__law_weight_of.nd rfl (by first | exact .inl rfl | exact .inr rfl) (pe_callD g__law_plus (hr.mono (by decide)) (by rfl) (pa_cons (pv 2) (pa_cons (pv 5) pa_nil))))) pss_nil)))
      (pss_one (ps_ret (pv 2)))))
def t__law_due (K : PySem.W.Frag) (Φ__law_plus : Ph) : TS := (tSeq (tAsg tDNewT (gName 3))
    (tSeq (tAsg (tTup (tCons (tC (.int 0)) (tCons (tC (.int 1)) tNil))) (gName 4))
    (tSeq (tFor (iTup K (tOp (rIx K) (tVar 0) (tC (.int 1)))) (gTup K 3 (gCons (gName 5) (gCons (gName 6) (gCons (gName 7) gNil)))) (tSeq (tAsg (tTup (tCons (tCB rMinI (tCons (tOp (rIx K) (tVar 1) (tVar 5)) (tCons (tOp (rIx K) (tVar 1) (tVar 6)) tNil))) (tCons (tCB rMaxI (tCons (tOp (rIx K) (tVar 1) (tVar 5)) (tCons (tOp (rIx K) (tVar 1) (tVar 6)) tNil))) tNil))) (gName 8))
    (tSeq (tAsg (tVar 7) (gName 9))
    (tSeq (tIfS (tTest (tOp (rNeD K) (tOp (rIx K) (tVar 2) (tVar 5)) (tOp (rIx K) (tVar 2) (tVar 6)))) (tSeq (tAsg (tCall (SpD K Φ__law_plus) [] E0 (tCons (tVar 4) (tCons (tVar 7) tNil))) (gName 4))
    (tAsg (tTup (tCons (tOp rSubI (tC (.int 0)) (tOp (rIx K) (tVar 7) (tC (.int 0)))) (tCons (tOp (rIx K) (tVar 7) (tC (.int 1))) tNil))) (gName 9))) tNext)
    (tIfS (tTest (tOp rLtI (tOp (rIx K) (tVar 8) (tC (.int 0))) (tOp (rIx K) (tVar 8) (tC (.int 1))))) (tAsg (tCall (SpD K Φ__law_plus) [] E0 (tCons (tDGet2 (tVar 3) (tVar 8) (tTup (tCons (tC (.int 0)) (tCons (tC (.int 1)) tNil)))) (tCons (tVar 9) tNil))) (gSub (tVar 3) (tVar 8) rSetD)) tNext)))))
    (tSeq (tAsg (tCB (rTupQ K) (tCons (tLc (iList K (tCB rSortK (tCons (tVar 3) tNil))) (gName 8) tYes (tTup (tCons (tOp (rIx K) (tVar 8) (tC (.int 0))) (tCons (tOp (rIx K) (tVar 8) (tC (.int 1))) (tCons (tDGet (tVar 3) (tVar 8)) tNil)))) [8]) tNil)) (gName 10))
    (tRet (tTup (tCons (tTup (tCons (tOp rAddI (tCB (rMax K) (tCons (tVar 1) tNil)) (tC (.int 1))) (tCons (tVar 10) tNil))) (tCons (tVar 4) tNil))))))))
theorem dv__law_due {f : Addr} {cdv : Value} {A : Around} {outer : List Env} {s : Shared} {H : Hp} {E : XK} (hr : Room 2 (A.deeper (envOfC "_law_due" (defScope s__law_due) s.heap.objs.size f cdv))) (B : ∀ x, x ∈ blt → mg x = none) (cs : Csts mg) {Φ__law_plus : Ph} (g__law_plus : Kn Pg w K mg base "_law_plus" 2 ["_law_one", "_law_other"] Φ__law_plus) :
    PSs (cxOf CX0 Pg w K mg base ["_law_web_here", "_law_groups_here", "_law_marks", "_law_sums", "_law_outside", "_law_a", "_law_b", "_law_weight_here", "_law_pair", "_law_share", "_law_ties"] "_law_due" (defScope s__law_due) f cdv A outer s H E).nox (defBody s__law_due) (t__law_due K Φ__law_plus) :=
  (pss_cons (ps_set (i := 3) sc__law_due.nd rfl (by first | exact .inl rfl | exact .inr rfl) pe_dnewT)
      (pss_cons (ps_set (i := 4) sc__law_due.nd rfl (by first | exact .inl rfl | exact .inr rfl) (pe_tup (pa_cons pe_int (pa_cons pe_int pa_nil))))
      (pss_cons (ps_for PassesOwn.never rfl (pi_tup (pe_ix ix_seq (pv 0) pe_int (fun _ _ => rfl))) (pg_tup rfl (pgs_cons (pg_name (i := 5) sc__law_due.nd rfl (by first | exact .inl rfl | exact .inr rfl)) (pgs_cons (pg_name (i := 6) sc__law_due.nd rfl (by first | exact .inl rfl | exact .inr rfl)) (pgs_cons (pg_name (i := 7) sc__law_due.nd rfl (by first | exact .inl rfl | exact .inr rfl)) pgs_nil)))) (pss_cons (ps_set (i := 8) sc__law_due.nd rfl (by first | exact .inl rfl | exact .inr rfl) (pe_tup (pa_cons (pe_callB (call_min2 rfl) (by rfl) (B "min" (by decide)) (by decide +kernel) (pa_cons (pe_ix ix_seq (pv 1) (pv 5) (fun _ _ => rfl)) (pa_cons (pe_ix ix_seq (pv 1) (pv 6) (fun _ _ => rfl)) pa_nil))) (pa_cons (pe_callB (call_max2 rfl) (by rfl) (B "max" (by decide)) (by decide +kernel) (pa_cons (pe_ix ix_seq (pv 1) (pv 5) (fun _ _ => rfl)) (pa_cons (pe_ix ix_seq (pv 1) (pv 6) (fun _ _ => rfl)) pa_nil))) pa_nil))))
      (pss_cons (ps_set (i := 9) sc__law_due.nd rfl (by first | exact .inl rfl | exact .inr rfl) (pv 7))
      (pss_cons (ps_if (pt_cmpR (op_neD hr.units) (pe_ix ix_seq (pv 2) (pv 5) (fun _ _ => rfl)) (pe_ix ix_seq (pv 2) (pv 6) (fun _ _ => rfl)) (nomark _)) (pss_cons (ps_set (i := 4) sc__law_due.nd rfl (by first | exact .inl rfl | exact .inr rfl) (pe_callD g__law_plus (hr.mono (by decide)) (by rfl) (pa_cons (pv 4) (pa_cons (pv 7) pa_nil))))
      (pss_one (ps_set (i := 9) sc__law_due.nd rfl (by first | exact .inl rfl | exact .inr rfl) (pe_tup (pa_cons (pe_op op_sub pe_int (pe_ix ix_seq (pv 7) pe_int (fun _ _ => rfl))) (pa_cons (pe_ix ix_seq (pv 7) pe_int (fun _ _ => rfl)) pa_nil)))))) pss_nil)
      (pss_one (ps_if (pt_cmpR op_lt (pe_ix ix_seq (pv 8) pe_int (fun _ _ => rfl)) (pe_ix ix_seq (pv 8) pe_int (fun _ _ => rfl)) (nomark _)) (pss_one (ps_asg (pe_callD g__law_plus (hr.mono (by decide)) (by rfl) (pa_cons (pe_dget2 (u1 hr) (pv 3) (pv 8) (pe_tup (pa_cons pe_int (pa_cons pe_int pa_nil))) ⟨by rfl, by rfl, by rfl, by rfl⟩) (pa_cons (pv 9) pa_nil))) (pg_sub (pv 3) (pv 8) (set_dict (u1 hr))))) pss_nil))))))
      (pss_cons (ps_set (i := 10) sc__law_due.nd rfl (by first | exact .inl rfl | exact .inr rfl) (pe_callTy call_tuple_of (by rfl) (B "tuple" (by decide)) (by decide +kernel) (pa_cons (pe_lc (own := [("_law_pair", 8)]) (g := (gName 8)) (tt := tYes) rfl sc__law_due.nd (pi_list (pe_callB (cr_sortK rfl hr.units) (by rfl) (B "sorted" (by decide)) (by decide +kernel) (pa_cons (pv 3) pa_nil))) (blkOk_by (own := [("_law_pair", 8)]) (N := ["_law_web_here", "_law_groups_here", "_law_marks", "_law_sums", "_law_outside", "_law_a", "_law_b", "_law_weight_here", "_law_pair", "_law_share", "_law_ties"]) (sc := defScope s__law_due) (by decide +kernel)) (fun _ _ _ _ _ => (pg_name (i := 8) sc__law_due.nd rfl (by first | exact .inl rfl | exact .inr rfl))) (fun _ _ _ _ _ => pts_nil) (fun _ _ _ _ _ => (pe_tup (pa_cons (pe_ix ix_seq (pv 8) pe_int (fun _ _ => rfl)) (pa_cons (pe_ix ix_seq (pv 8) pe_int (fun _ _ => rfl)) (pa_cons (pe_dget (u1 hr) (pv 3) (pv 8) (fun _ _ => rfl)) pa_nil)))))) pa_nil)))
      (pss_one (ps_ret (pe_tup (pa_cons (pe_tup (pa_cons (pe_op op_add (pe_callB (cr_max rfl) (by rfl) (B "max" (by decide)) (by decide +kernel) (pa_cons (pv 1) pa_nil)) pe_int) (pa_cons (pv 10) pa_nil))) (pa_cons (pv 4) pa_nil)))))))))
def t__law_may_be (K : PySem.W.Frag) : TS := (tRet (tOp (rEqD K) (tLc (iTup K (tOp (rIx K) (tVar 0) (tC (.int 1)))) (gName 1) (tOr (tTest (tOp rGtI (tCB rAbs (tCons (tOp (rIx K) (tOp (rIx K) (tVar 1) (tC (.int 2))) (tC (.int 0))) tNil)) (tOp rPowI (tC (.int 10)) (tC (.int 9))))) (tTest (tOp rGtI (tOp (rIx K) (tOp (rIx K) (tVar 1) (tC (.int 2))) (tC (.int 1))) (tC (.int 1000))))) (tVar 1) [1]) (tLst tNil)))
theorem dv__law_may_be {f : Addr} {cdv : Value} {A : Around} {outer : List Env} {s : Shared} {H : Hp} {E : XK} (hr : Room 0 (A.deeper (envOfC "_law_may_be" (defScope s__law_may_be) s.heap.objs.size f cdv))) (B : ∀ x, x ∈ blt → mg x = none) (cs : Csts mg) :
    PSs (cxOf CX0 Pg w K mg base ["_law_web_here", "_law_tie"] "_law_may_be" (defScope s__law_may_be) f cdv A outer s H E).nox (defBody s__law_may_be) (t__law_may_be K) :=
  (pss_one (ps_ret (pe_cmpR (op_eqD hr.units) (pe_lc (own := [("_law_tie", 1)]) (g := (gName 1)) (tt := (tOr (tTest (tOp rGtI (tCB rAbs (tCons (tOp (rIx K) (tOp (rIx K) (tVar 1) (tC (.int 2))) (tC (.int 0))) tNil)) (tOp rPowI (tC (.int 10)) (tC (.int 9))))) (tTest (tOp rGtI (tOp (rIx K) (tOp (rIx K) (tVar 1) (tC (.int 2))) (tC (.int 1))) (tC (.int 1000)))))) rfl sc__law_may_be.nd (pi_tup (pe_ix ix_seq (pv 0) pe_int (fun _ _ => rfl))) (blkOk_by (own := [("_law_tie", 1)]) (N := ["_law_web_here", "_law_tie"]) (sc := defScope s__law_may_be) (by decide +kernel)) (fun _ _ _ _ _ => (pg_name (i := 1) sc__law_may_be.nd rfl (by first | exact .inl rfl | exact .inr rfl))) (fun _ _ _ _ _ => (pts_one (PW.pt (pw_or (pt_cmpR op_gt (pe_callB call_abs (by rfl) (B "abs" (by decide)) (by decide +kernel) (pa_cons (pe_ix ix_seq (pe_ix ix_seq (pv 1) pe_int (fun _ _ => rfl)) pe_int (fun _ _ => rfl)) pa_nil)) (pe_op op_pow pe_int pe_int) (nomark _)) (pw_or1 (pt_cmpR op_gt (pe_ix ix_seq (pe_ix ix_seq (pv 1) pe_int (fun _ _ => rfl)) pe_int (fun _ _ => rfl)) pe_int (nomark _))))))) (fun _ _ _ _ _ => (pv 1))) (pe_lst pa_nil) (nomark _))))
def t__law_caught (K : PySem.W.Frag) (C_CutError C_NoWeb C_NoSide C_NoWishes C_TooGreat : Addr) (Φ_glued : PhY) : TS := (tSeq (tTryE K C_CutError 2 (fun W => (tCallS (SpY K Φ_glued) (WE W) (tCons (tVar 0) (tCons (tVar 1) tNil)))))
    (tRet (tC .non)))
theorem dv__law_caught {f : Addr} {cdv : Value} {A : Around} {outer : List Env} {s : Shared} {H : Hp} {E : XK} (hr : Room 7 (A.deeper (envOfC "_law_caught" (defScope s__law_caught) s.heap.objs.size f cdv))) (B : ∀ x, x ∈ blt → mg x = none) (cs : Csts mg) {C_CutError C_NoWeb C_NoSide C_NoWishes C_TooGreat : Addr} (cl : Cls K mg C_CutError C_NoWeb C_NoSide C_NoWishes C_TooGreat) {Φ_glued : PhY} (g_glued : KnY Pg w K mg base "glued" 7 ["web", "wishes"] Φ_glued) :
    PSs (cxOf CX0 Pg w K mg base ["_law_web_here", "_law_wishes_here", "error"] "_law_caught" (defScope s__law_caught) f cdv A outer s H E).nox (defBody s__law_caught) (t__law_caught K C_CutError C_NoWeb C_NoSide C_NoWishes C_TooGreat Φ_glued) :=
  (pss_cons (ps_try_keep (i := 2) (tb := fun W => tDrop (tCallS (SpY K Φ_glued) (WE W) (tCons (tVar 0) (tCons (tVar 1) tNil)))) (ts := fun _ => tRet (tVar 2)) rfl rfl rfl sc__law_caught.nd rfl rfl ⟨rfl, by decide, .inl cl.g_CutError⟩ (fun W pn xe tk _ => pss_one (ps_expr (pe_callY g_glued (hr.mono (by decide)) (by rfl) tk (pa_cons (pv 0) (pa_cons (pv 1) pa_nil))))) (fun a err ps => pss_one (ps_ret (pv 2))))
      (pss_one (ps_ret pe_non)))
def t__law_refused (K : PySem.W.Frag) (C_CutError C_NoWeb C_NoSide C_NoWishes C_TooGreat : Addr) (Φ__law_caught : Ph) : TS := (tSeq (tAsg (tCall (SpD K Φ__law_caught) [] E0 (tCons (tVar 0) (tCons (tVar 1) tNil))) (gName 2))
    (tSeq (tIfS (tOr (tNot (L2.tB (tCB (rIsH K) (tCons (tVar 2) (tCons (tC (.ref C_NoWishes)) tNil))))) (tNot (L2.tB (tCB (rIsH K) (tCons (tVar 2) (tCons (tC (.ty "ValueError")) tNil)))))) (tRet (tC (.bl false))) tNext)
    (tRet (tAndV (tNotV (tCB (rIsH K) (tCons (tVar 2) (tCons (tC (.ref C_TooGreat)) tNil)))) (tNotV (tCB (rIsH K) (tCons (tVar 2) (tCons (tC (.ref C_NoWeb)) tNil))))))))
theorem dv__law_refused {f : Addr} {cdv : Value} {A : Around} {outer : List Env} {s : Shared} {H : Hp} {E : XK} (hr : Room 8 (A.deeper (envOfC "_law_refused" (defScope s__law_refused) s.heap.objs.size f cdv))) (B : ∀ x, x ∈ blt → mg x = none) (cs : Csts mg) {C_CutError C_NoWeb C_NoSide C_NoWishes C_TooGreat : Addr} (cl : Cls K mg C_CutError C_NoWeb C_NoSide C_NoWishes C_TooGreat) {Φ__law_caught : Ph} (g__law_caught : Kn Pg w K mg base "_law_caught" 8 ["_law_web_here", "_law_wishes_here"] Φ__law_caught) :
    PSs (cxOf CX0 Pg w K mg base ["_law_web_here", "_law_wishes_here", "_law_caught_here"] "_law_refused" (defScope s__law_refused) f cdv A outer s H E).nox (defBody s__law_refused) (t__law_refused K C_CutError C_NoWeb C_NoSide C_NoWishes C_TooGreat Φ__law_caught) :=
  (pss_cons (ps_set (i := 2) sc__law_refused.nd rfl (by first | exact .inl rfl | exact .inr rfl) (pe_callD g__law_caught (hr.mono (by decide)) (by rfl) (pa_cons (pv 0) (pa_cons (pv 1) pa_nil))))
      (pss_cons (ps_if (PW.pt (pw_or (pt_not (pt_val (pe_callB call_isH (by rfl) (B "isinstance" (by decide)) (by decide +kernel) (pa_cons (pv 2) (pa_cons (pe_glob rfl cl.g_NoWishes rfl) pa_nil))))) (pw_or1 (pt_not (pt_val (pe_callB call_isH (by rfl) (B "isinstance" (by decide)) (by decide +kernel) (pa_cons (pv 2) (pa_cons (pe_bltn (by rfl) (B "ValueError" (by decide)) (by decide +kernel) rfl) pa_nil)))))))) (pss_one (ps_ret pe_bl)) pss_nil)
      (pss_one (ps_ret (pe_and (pe_not (pe_callB call_isH (by rfl) (B "isinstance" (by decide)) (by decide +kernel) (pa_cons (pv 2) (pa_cons (pe_glob rfl cl.g_TooGreat rfl) pa_nil)))) (pe_one (pe_not (pe_callB call_isH (by rfl) (B "isinstance" (by decide)) (by decide +kernel) (pa_cons (pv 2) (pa_cons (pe_glob rfl cl.g_NoWeb rfl) pa_nil))))))))))
def t__law_led (K : PySem.W.Frag) (C_CutError C_NoWeb C_NoSide C_NoWishes C_TooGreat : Addr) (Φ_led_back : PhY) (Φ__law_weight_of : Ph) (Φ__law_plus : Ph) : TS := (tSeq (tAsg (tCall (SpY K Φ_led_back) [] E0 (tCons (tVar 0) (tCons (tVar 1) (tCons (tVar 5) tNil)))) (gName 6))
    (tSeq (tAsg (tLc (iRng1 (tCons (tOp (rIx K) (tVar 0) (tC (.int 0))) tNil)) (gName 8) tYes (tOp rModN (tOp rAddI (tOp (rIx K) (tVar 5) (tOp (rIx K) (tVar 2) (tVar 8))) (tOp (rIx K) (tVar 3) (tVar 8))) (tC (.int 2))) [8]) (gName 7))
    (tSeq (tIfS (tOr (tNot (L2.tB (tCB (rIsi K) (tCons (tVar 6) (tCons (tC (.ty "tuple")) tNil))))) (tOr (tTest (tOp (rNeD K) (tVar 6) (tCB (rTupQ K) (tCons (tVar 7) tNil)))) (tTest (tOp (rNeD K) (tOp (rIx K) (tVar 6) (tC (.int 0))) (tC (.int 0)))))) (tRet (tC (.bl false))) tNext)
    (tSeq (tFor (iList K (tVar 1)) (gTup K 3 (gCons (gName 9) (gCons (gName 10) (gCons (gName 11) gNil)))) (tIfS (tTest (tOp (rNeD K) (tOp rModN (tOp rAddI (tOp (rIx K) (tVar 6) (tVar 9)) (tOp (rIx K) (tVar 6) (tVar 10))) (tC (.int 2))) (tVar 11))) (tRet (tC (.bl false))) tNext))
    (tRet (tOp (rEqD K) (tCall (SpD K Φ__law_weight_of) [] E0 (tCons (tVar 0) (tCons (tVar 6) tNil))) (tCall (SpD K Φ__law_plus) [] E0 (tCons (tCall (SpD K Φ__law_weight_of) [] E0 (tCons (tOp (rIx K) (tVar 4) (tC (.int 0))) (tCons (tVar 5) tNil))) (tCons (tOp (rIx K) (tVar 4) (tC (.int 1))) tNil)))))))))
theorem dv__law_led {f : Addr} {cdv : Value} {A : Around} {outer : List Env} {s : Shared} {H : Hp} {E : XK} (hr : Room 7 (A.deeper (envOfC "_law_led" (defScope s__law_led) s.heap.objs.size f cdv))) (B : ∀ x, x ∈ blt → mg x = none) (cs : Csts mg) {C_CutError C_NoWeb C_NoSide C_NoWishes C_TooGreat : Addr} (cl : Cls K mg C_CutError C_NoWeb C_NoSide C_NoWishes C_TooGreat) {Φ_led_back : PhY} {Φ__law_weight_of : Ph} {Φ__law_plus : Ph} (g_led_back : KnY Pg w K mg base "led_back" 7 ["web", "wishes", "side"] Φ_led_back) (g__law_weight_of : Kn Pg w K mg base "_law_weight_of" 3 ["_law_web_here", "_law_bits"] Φ__law_weight_of) (g__law_plus : Kn Pg w K mg base "_law_plus" 2 ["_law_one", "_law_other"] Φ__law_plus) :
    PSs (cxOf CX0 Pg w K mg base ["_law_web_here", "_law_wishes_here", "_law_groups_here", "_law_marks", "_law_due_here", "_law_side", "_law_found", "_law_bits", "_law_point", "_law_a", "_law_b", "_law_apart"] "_law_led" (defScope s__law_led) f cdv A outer s H E).nox (defBody s__law_led) (t__law_led K C_CutError C_NoWeb C_NoSide C_NoWishes C_TooGreat Φ_led_back Φ__law_weight_of Φ__law_plus) :=
  (pss_cons (ps_set (i := 6) sc__law_led.nd rfl (by first | exact .inl rfl | exact .inr rfl) (pe_callY0 g_led_back (hr.mono (by decide)) (by rfl) (pa_cons (pv 0) (pa_cons (pv 1) (pa_cons (pv 5) pa_nil)))))
      (pss_cons (ps_setLc (i := 7) (own := [("_law_point", 8)]) (g := (gName 8)) (tt := tYes) rfl sc__law_led.nd rfl rfl (sw_true rfl rfl rfl (by decide +kernel)) (pi_range1 (by rfl) (B "range" (by decide)) (pa_cons (pe_ix ix_seq (pv 0) pe_int (fun _ _ => rfl)) pa_nil)) (blkOk_by (own := [("_law_point", 8)]) (N := ["_law_web_here", "_law_wishes_here", "_law_groups_here", "_law_marks", "_law_due_here", "_law_side", "_law_found", "_law_bits", "_law_point", "_law_a", "_law_b", "_law_apart"]) (sc := defScope s__law_led) (by decide +kernel)) (fun _ _ _ _ _ => (pg_name (i := 8) sc__law_led.nd rfl (by first | exact .inl rfl | exact .inr rfl))) (fun _ _ _ _ _ => pts_nil) (fun _ _ _ _ _ => (pe_op op_modN (pe_op op_add (pe_ix ix_seq (pv 5) (pe_ix ix_seq (pv 2) (pv 8) (fun _ _ => rfl)) (fun _ _ => rfl)) (pe_ix ix_seq (pv 3) (pv 8) (fun _ _ => rfl))) pe_int)))
      (pss_cons (ps_if (PW.pt (pw_or (pt_not (pt_val (pe_callB call_isi (by rfl) (B "isinstance" (by decide)) (by decide +kernel) (pa_cons (pv 6) (pa_cons (pe_bltn (by rfl) (B "tuple" (by decide)) (by decide +kernel) rfl) pa_nil))))) (pw_or (pt_cmpR (op_neD hr.units) (pv 6) (pe_callTy call_tuple_of (by rfl) (B "tuple" (by decide)) (by decide +kernel) (pa_cons (pv 7) pa_nil)) (nomark _)) (pw_or1 (pt_cmpR (op_neD hr.units) (pe_ix ix_seq (pv 6) pe_int (fun _ _ => rfl)) pe_int (nomark _)))))) (pss_one (ps_ret pe_bl)) pss_nil)
      (pss_cons (ps_for PassesOwn.never rfl (pi_list (pv 1)) (pg_tup rfl (pgs_cons (pg_name (i := 9) sc__law_led.nd rfl (by first | exact .inl rfl | exact .inr rfl)) (pgs_cons (pg_name (i := 10) sc__law_led.nd rfl (by first | exact .inl rfl | exact .inr rfl)) (pgs_cons (pg_name (i := 11) sc__law_led.nd rfl (by first | exact .inl rfl | exact .inr rfl)) pgs_nil)))) (pss_one (ps_if (pt_cmpR (op_neD hr.units) (pe_op op_modN (pe_op op_add (pe_ix ix_seq (pv 6) (pv 9) (fun _ _ => rfl)) (pe_ix ix_seq (pv 6) (pv 10) (fun _ _ => rfl))) pe_int) (pv 11) (nomark _)) (pss_one (ps_ret pe_bl)) pss_nil)))
      (pss_one (ps_ret (pe_cmpR (op_eqD hr.units) (pe_callD g__law_weight_of (hr.mono (by decide)) (by rfl) (pa_cons (pv 0) (pa_cons (pv 6) pa_nil))) (pe_callD g__law_plus (hr.mono (by decide)) (by rfl) (pa_cons (pe_callD g__law_weight_of (hr.mono (by decide)) (by rfl) (pa_cons (pe_ix ix_seq (pv 4) pe_int (fun _ _ => rfl)) (pa_cons (pv 5) pa_nil))) (pa_cons (pe_ix ix_seq (pv 4) pe_int (fun _ _ => rfl)) pa_nil))) (nomark _))))))))
def t__law_right (K : PySem.W.Frag) (C_CutError C_NoWeb C_NoSide C_NoWishes C_TooGreat : Addr) (Φ__law_groups : Ph) (Φ_glued : PhY) (Φ__law_due : Ph) (Φ__law_may_be : Ph) (Φ__law_caught : Ph) (Φ__law_led : Ph) : TS := (tSeq (tAsg (tCall (SpD K Φ__law_groups) [] E0 (tCons (tOp (rIx K) (tVar 0) (tC (.int 0))) (tCons (tVar 1) tNil))) (gName 2))
    (tSeq (tIfS (tTest (tOp rIsNn (tVar 2) (tC .non))) (tRet (tAndV (tOp rIsNn (tCall (SpY K Φ_glued) [] E0 (tCons (tVar 0) (tCons (tVar 1) tNil))) (tC .non)) (tOp rIsNn (tCall (SpY K Φ_glued) [] E0 (tCons (tVar 0) (tCons (tCB (rTupQ K) (tCons (tVar 1) tNil)) tNil))) (tC .non)))) tNext)
    (tSeq (tAsg (tVar 2) (gTup K 2 (gCons (gName 3) (gCons (gName 4) gNil))))
    (tSeq (tAsg (tCall (SpD K Φ__law_due) [] E0 (tCons (tVar 0) (tCons (tVar 3) (tCons (tVar 4) tNil)))) (gName 5))
    (tSeq (tAsg (tOp (rIx K) (tOp (rIx K) (tVar 5) (tC (.int 0))) (tC (.int 0))) (gName 6))
    (tSeq (tIfS (tNot (L2.tB (tCall (SpD K Φ__law_may_be) [] E0 (tCons (tOp (rIx K) (tVar 5) (tC (.int 0))) tNil)))) (tRet (tCB (rIsH K) (tCons (tCall (SpD K Φ__law_caught) [] E0 (tCons (tVar 0) (tCons (tVar 1) tNil))) (tCons (tC (.ref C_TooGreat)) tNil)))) tNext)
    (tSeq (tAsg (tCall (SpY K Φ_glued) [] E0 (tCons (tVar 0) (tCons (tVar 1) tNil))) (gName 7))
    (tSeq (tIfS (tOr (tNot (L2.tB (tCB (rIsi K) (tCons (tVar 7) (tCons (tC (.ty "tuple")) tNil))))) (tOr (tNot (L2.tB (tCB (rIsi K) (tCons (tOp (rIx K) (tVar 7) (tC (.int 0))) (tCons (tC (.ty "tuple")) tNil))))) (tNot (L2.tB (tCB (rIsi K) (tCons (tOp (rIx K) (tOp (rIx K) (tVar 7) (tC (.int 0))) (tC (.int 1))) (tCons (tC (.ty "tuple")) tNil))))))) (tRet (tC (.bl false))) tNext)
    (tSeq (tIfS (tOr (tTest (tOp (rNeD K) (tVar 7) (tVar 5))) (tTest (tOp (rNeD K) (tCall (SpY K Φ_glued) [] E0 (tCons (tVar 0) (tCons (tCB (rTupQ K) (tCons (tLc (iList K (tVar 1)) (gName 8) tYes (tCB (rListQ K) (tCons (tVar 8) tNil)) [8]) tNil)) tNil))) (tVar 5)))) (tRet (tC (.bl false))) tNext)
    (tSeq (tFor (iRng1 (tCons (tOp rShlI (tC (.int 1)) (tOp rSubI (tVar 6) (tC (.int 1)))) tNil)) (gName 9) (tSeq (tAsg (tCB (rTupQ K) (tCons (tOp rCat (tLst (tCons (tC (.int 0)) tNil)) (tLc (iRng1 (tCons (tOp rSubI (tVar 6) (tC (.int 1))) tNil)) (gName 11) tYes (tOp rModN (tOp rShrI (tVar 9) (tVar 11)) (tC (.int 2))) [11])) tNil)) (gName 10))
    (tIfS (tNot (L2.tB (tCall (SpD K Φ__law_led) [] E0 (tCons (tVar 0) (tCons (tVar 1) (tCons (tVar 3) (tCons (tVar 4) (tCons (tVar 5) (tCons (tVar 10) tNil))))))))) (tRet (tC (.bl false))) tNext)))
    (tRet (tC (.bl true)))))))))))))
theorem dv__law_right {f : Addr} {cdv : Value} {A : Around} {outer : List Env} {s : Shared} {H : Hp} {E : XK} (hr : Room 8 (A.deeper (envOfC "_law_right" (defScope s__law_right) s.heap.objs.size f cdv))) (B : ∀ x, x ∈ blt → mg x = none) (cs : Csts mg) {C_CutError C_NoWeb C_NoSide C_NoWishes C_TooGreat : Addr} (cl : Cls K mg C_CutError C_NoWeb C_NoSide C_NoWishes C_TooGreat) {Φ__law_groups : Ph} {Φ_glued : PhY} {Φ__law_due : Ph} {Φ__law_may_be : Ph} {Φ__law_caught : Ph} {Φ__law_led : Ph} (g__law_groups : Kn Pg w K mg base "_law_groups" 1 ["_law_many", "_law_wishes_here"] Φ__law_groups) (g_glued : KnY Pg w K mg base "glued" 7 ["web", "wishes"] Φ_glued) (g__law_due : Kn Pg w K mg base "_law_due" 3 ["_law_web_here", "_law_groups_here", "_law_marks"] Φ__law_due) (g__law_may_be : Kn Pg w K mg base "_law_may_be" 1 ["_law_web_here"] Φ__law_may_be) (g__law_caught : Kn Pg w K mg base "_law_caught" 8 ["_law_web_here", "_law_wishes_here"] Φ__law_caught) (g__law_led : Kn Pg w K mg base "_law_led" 8 ["_law_web_here", "_law_wishes_here", "_law_groups_here", "_law_marks", "_law_due_here", "_law_side"] Φ__law_led) :
    PSs (cxOf CX0 Pg w K mg base ["_law_web_here", "_law_wishes_here", "_law_known", "_law_groups_here", "_law_marks", "_law_due_here", "_law_many", "_law_found", "_law_wish", "_law_number", "_law_side", "_law_k"] "_law_right" (defScope s__law_right) f cdv A outer s H E).nox (defBody s__law_right) (t__law_right K C_CutError C_NoWeb C_NoSide C_NoWishes C_TooGreat Φ__law_groups Φ_glued Φ__law_due Φ__law_may_be Φ__law_caught Φ__law_led) :=
  (pss_cons (ps_set (i := 2) sc__law_right.nd rfl (by first | exact .inl rfl | exact .inr rfl) (pe_callD g__law_groups (hr.mono (by decide)) (by rfl) (pa_cons (pe_ix ix_seq (pv 0) pe_int (fun _ _ => rfl)) (pa_cons (pv 1) pa_nil))))
      (pss_cons (ps_if (pt_cmpR op_isN (pv 2) pe_non (nomark _)) (pss_one (ps_ret (pe_and (pe_cmpR op_isN (pe_callY0 g_glued (hr.mono (by decide)) (by rfl) (pa_cons (pv 0) (pa_cons (pv 1) pa_nil))) pe_non (nomark _)) (pe_one (pe_cmpR op_isN (pe_callY0 g_glued (hr.mono (by decide)) (by rfl) (pa_cons (pv 0) (pa_cons (pe_callTy call_tuple_of (by rfl) (B "tuple" (by decide)) (by decide +kernel) (pa_cons (pv 1) pa_nil)) pa_nil))) pe_non (nomark _)))))) pss_nil)
      (pss_cons (ps_asg (pv 2) (pg_tup rfl (pgs_cons (pg_name (i := 3) sc__law_right.nd rfl (by first | exact .inl rfl | exact .inr rfl)) (pgs_cons (pg_name (i := 4) sc__law_right.nd rfl (by first | exact .inl rfl | exact .inr rfl)) pgs_nil))))
      (pss_cons (ps_set (i := 5) sc__law_right.nd rfl (by first | exact .inl rfl | exact .inr rfl) (pe_callD g__law_due (hr.mono (by decide)) (by rfl) (pa_cons (pv 0) (pa_cons (pv 3) (pa_cons (pv 4) pa_nil)))))
      (pss_cons (ps_set (i := 6) sc__law_right.nd rfl (by first | exact .inl rfl | exact .inr rfl) (pe_ix ix_seq (pe_ix ix_seq (pv 5) pe_int (fun _ _ => rfl)) pe_int (fun _ _ => rfl)))
      (pss_cons (ps_if (pt_not (pt_val (pe_callD g__law_may_be (hr.mono (by decide)) (by rfl) (pa_cons (pe_ix ix_seq (pv 5) pe_int (fun _ _ => rfl)) pa_nil)))) (pss_one (ps_ret (pe_callB call_isH (by rfl) (B "isinstance" (by decide)) (by decide +kernel) (pa_cons (pe_callD g__law_caught (hr.mono (by decide)) (by rfl) (pa_cons (pv 0) (pa_cons (pv 1) pa_nil))) (pa_cons (pe_glob rfl cl.g_TooGreat rfl) pa_nil))))) pss_nil)
      (pss_cons (ps_set (i := 7) sc__law_right.nd rfl (by first | exact .inl rfl | exact .inr rfl) (pe_callY0 g_glued (hr.mono (by decide)) (by rfl) (pa_cons (pv 0) (pa_cons (pv 1) pa_nil))))
      (pss_cons (ps_if (PW.pt (pw_or (pt_not (pt_val (pe_callB call_isi (by rfl) (B "isinstance" (by decide)) (by decide +kernel) (pa_cons (pv 7) (pa_cons (pe_bltn (by rfl) (B "tuple" (by decide)) (by decide +kernel) rfl) pa_nil))))) (pw_or (pt_not (pt_val (pe_callB call_isi (by rfl) (B "isinstance" (by decide)) (by decide +kernel) (pa_cons (pe_ix ix_seq (pv 7) pe_int (fun _ _ => rfl)) (pa_cons (pe_bltn (by rfl) (B "tuple" (by decide)) (by decide +kernel) rfl) pa_nil))))) (pw_or1 (pt_not (pt_val (pe_callB call_isi (by rfl) (B "isinstance" (by decide)) (by decide +kernel) (pa_cons (pe_ix ix_seq (pe_ix ix_seq (pv 7) pe_int (fun _ _ => rfl)) pe_int (fun _ _ => rfl)) (pa_cons (pe_bltn (by rfl) (B "tuple" (by decide)) (by decide +kernel) rfl) pa_nil))))))))) (pss_one (ps_ret pe_bl)) pss_nil)
      (pss_cons (ps_if (PW.pt (pw_or (pt_cmpR (op_neD hr.units) (pv 7) (pv 5) (nomark _)) (pw_or1 (pt_cmpR (op_neD hr.units) (pe_callY0 g_glued (hr.mono (by decide)) (by rfl) (pa_cons (pv 0) (pa_cons (pe_callTy call_tuple_of (by rfl) (B "tuple" (by decide)) (by decide +kernel) (pa_cons (pe_lc (own := [("_law_wish", 8)]) (g := (gName 8)) (tt := tYes) rfl sc__law_right.nd (pi_list (pv 1)) (blkOk_by (own := [("_law_wish", 8)]) (N := ["_law_web_here", "_law_wishes_here", "_law_known", "_law_groups_here", "_law_marks", "_law_due_here", "_law_many", "_law_found", "_law_wish", "_law_number", "_law_side", "_law_k"]) (sc := defScope s__law_right) (by decide +kernel)) (fun _ _ _ _ _ => (pg_name (i := 8) sc__law_right.nd rfl (by first | exact .inl rfl | exact .inr rfl))) (fun _ _ _ _ _ => pts_nil) (fun _ _ _ _ _ => (pe_callTy call_list_of (by rfl) (B "list" (by decide)) (by decide +kernel) (pa_cons (pv 8) pa_nil)))) pa_nil)) pa_nil))) (pv 5) (nomark _))))) (pss_one (ps_ret pe_bl)) pss_nil)
      (pss_cons (ps_for PassesOwn.never rfl (pi_range1 (by rfl) (B "range" (by decide)) (pa_cons (pe_op op_shl pe_int (pe_op op_sub (pv 6) pe_int)) pa_nil)) (pg_name (i := 9) sc__law_right.nd rfl (by first | exact .inl rfl | exact .inr rfl)) (pss_cons (ps_set (i := 10) sc__law_right.nd rfl (by first | exact .inl rfl | exact .inr rfl) (pe_callTy call_tuple_of (by rfl) (B "tuple" (by decide)) (by decide +kernel) (pa_cons (pe_op op_cat (pe_lst (pa_cons pe_int pa_nil)) (pe_lc (own := [("_law_k", 11)]) (g := (gName 11)) (tt := tYes) rfl sc__law_right.nd (pi_range1 (by rfl) (B "range" (by decide)) (pa_cons (pe_op op_sub (pv 6) pe_int) pa_nil)) (blkOk_by (own := [("_law_k", 11)]) (N := ["_law_web_here", "_law_wishes_here", "_law_known", "_law_groups_here", "_law_marks", "_law_due_here", "_law_many", "_law_found", "_law_wish", "_law_number", "_law_side", "_law_k"]) (sc := defScope s__law_right) (by decide +kernel)) (fun _ _ _ _ _ => (pg_name (i := 11) sc__law_right.nd rfl (by first | exact .inl rfl | exact .inr rfl))) (fun _ _ _ _ _ => pts_nil) (fun _ _ _ _ _ => (pe_op op_modN (pe_op op_shr (pv 9) (pv 11)) pe_int)))) pa_nil)))
      (pss_one (ps_if (pt_not (pt_val (pe_callD g__law_led (hr.mono (by decide)) (by rfl) (pa_cons (pv 0) (pa_cons (pv 1) (pa_cons (pv 3) (pa_cons (pv 4) (pa_cons (pv 5) (pa_cons (pv 10) pa_nil))))))))) (pss_one (ps_ret pe_bl)) pss_nil))))
      (pss_one (ps_ret pe_bl))))))))))))
def t__law_wrong_wishes (K : PySem.W.Frag) : TS := (tSeq (tAsg (tLst (tCons (tC .non) (tCons (tC (.int 3)) (tCons (tC (.str "01")) (tCons tDNewK (tCons (tLst (tCons (tTup (tCons (tC (.int 0)) (tCons (tC (.int 0)) (tCons (tC (.int 0)) tNil)))) tNil)) (tCons (tLst (tCons (tTup (tCons (tC (.int 0)) (tCons (tVar 0) (tCons (tC (.int 1)) tNil)))) tNil)) (tCons (tLst (tCons (tTup (tCons (tUn rNegI (tC (.int 1))) (tCons (tC (.int 0)) (tCons (tC (.int 1)) tNil)))) tNil)) (tCons (tLst (tCons (tTup (tCons (tC (.int 0)) (tCons (tC (.int 1)) tNil))) tNil)) (tCons (tLst (tCons (tC (.int 7)) tNil)) (tCons (tLst (tCons (tTup (tCons (tC (.int 0)) (tCons (tC (.int 1)) (tCons (tC (.int 0)) (tCons (tC (.int 0)) tNil))))) tNil)) tNil))))))))))) (gName 1))
    (tRet (tOp rCat (tVar 1) (tLst (tCons (tLst (tCons (tTup (tCons (tC (.int 0)) (tCons (tC (.int 1)) (tCons (tC (.int 2)) tNil)))) tNil)) (tCons (tLst (tCons (tTup (tCons (tC (.int 0)) (tCons (tC (.int 1)) (tCons (tC (.bl true)) tNil)))) tNil)) (tCons (tLst (tCons (tTup (tCons (tC (.int 0)) (tCons (tC (.int 1)) (tCons (tC .non) tNil)))) tNil)) (tCons (tLst (tCons (tTup (tCons (tC (.str "0")) (tCons (tC (.int 1)) (tCons (tC (.int 1)) tNil)))) tNil)) (tCons (tOp rRep (tLst (tCons (tTup (tCons (tC (.int 0)) (tCons (tC (.int 1)) (tCons (tC (.int 0)) tNil)))) tNil)) (tC (.int 121))) tNil)))))))))
theorem dv__law_wrong_wishes {f : Addr} {cdv : Value} {A : Around} {outer : List Env} {s : Shared} {H : Hp} {E : XK} (hr : Room 0 (A.deeper (envOfC "_law_wrong_wishes" (defScope s__law_wrong_wishes) s.heap.objs.size f cdv))) (B : ∀ x, x ∈ blt → mg x = none) (cs : Csts mg) :
    PSs (cxOf CX0 Pg w K mg base ["_law_many", "_law_rows"] "_law_wrong_wishes" (defScope s__law_wrong_wishes) f cdv A outer s H E).nox (defBody s__law_wrong_wishes) (t__law_wrong_wishes K) :=
  (pss_cons (ps_set (i := 1) sc__law_wrong_wishes.nd rfl (by first | exact .inl rfl | exact .inr rfl) (pe_lst (pa_cons pe_non (pa_cons pe_int (pa_cons pe_str (pa_cons pe_dnewK (pa_cons (pe_lst (pa_cons (pe_tup (pa_cons pe_int (pa_cons pe_int (pa_cons pe_int pa_nil)))) pa_nil)) (pa_cons (pe_lst (pa_cons (pe_tup (pa_cons pe_int (pa_cons (pv 0) (pa_cons pe_int pa_nil)))) pa_nil)) (pa_cons (pe_lst (pa_cons (pe_tup (pa_cons (pe_un un_neg pe_int) (pa_cons pe_int (pa_cons pe_int pa_nil)))) pa_nil)) (pa_cons (pe_lst (pa_cons (pe_tup (pa_cons pe_int (pa_cons pe_int pa_nil))) pa_nil)) (pa_cons (pe_lst (pa_cons pe_int pa_nil)) (pa_cons (pe_lst (pa_cons (pe_tup (pa_cons pe_int (pa_cons pe_int (pa_cons pe_int (pa_cons pe_int pa_nil))))) pa_nil)) pa_nil))))))))))))
      (pss_one (ps_ret (pe_op op_cat (pv 1) (pe_lst (pa_cons (pe_lst (pa_cons (pe_tup (pa_cons pe_int (pa_cons pe_int (pa_cons pe_int pa_nil)))) pa_nil)) (pa_cons (pe_lst (pa_cons (pe_tup (pa_cons pe_int (pa_cons pe_int (pa_cons pe_bl pa_nil)))) pa_nil)) (pa_cons (pe_lst (pa_cons (pe_tup (pa_cons pe_int (pa_cons pe_int (pa_cons pe_non pa_nil)))) pa_nil)) (pa_cons (pe_lst (pa_cons (pe_tup (pa_cons pe_str (pa_cons pe_int (pa_cons pe_int pa_nil)))) pa_nil)) (pa_cons (pe_op op_rep (pe_lst (pa_cons (pe_tup (pa_cons pe_int (pa_cons pe_int (pa_cons pe_int pa_nil)))) pa_nil)) pe_int) pa_nil))))))))))
def t_law (K : PySem.W.Frag) (C_CutError C_NoWeb C_NoSide C_NoWishes C_TooGreat : Addr) (Φ__law_stream : Ph) (Φ__law_cell_at : Ph) (Φ__law_web : Ph) (Φ__law_wishes : Ph) (Φ__law_right : Ph) (Φ__law_wrong_wishes : Ph) (Φ__law_refused : Ph) (Φ__law_caught : Ph) (Φ_glued : PhY) : TS := (tSeq (tFor (iRng1 (tCons (tCB rMaxI (tCons (tC (.int 3)) (tCons (tCB rMinI (tCons (tC (.int 6)) (tCons (tCB (rLenQ K) (tCons (tVar 0) tNil)) tNil))) tNil))) tNil)) (gName 1) (tSeq (tAsg (tCall (SpD K Φ__law_stream) [] E0 (tCons (tOp rAddI (tCall (SpD K Φ__law_cell_at) [] E0 (tCons (tVar 0) (tCons (tVar 1) tNil))) (tVar 1)) (tCons (tC (.int 34)) tNil))) (gName 2))
    (tSeq (tAsg (tCall (SpD K Φ__law_web) [] E0 (tCons (tVar 2) (tCons (tC (.int 6)) tNil))) (gName 3))
    (tSeq (tAsg (tCall (SpD K Φ__law_wishes) [] E0 (tCons (tOp (rIx K) (tVar 3) (tC (.int 0))) (tCons (tVar 2) tNil))) (gName 4))
    (tSeq (tAsg (tCB (rListQ K) (tCons (tVar 4) tNil)) (gName 5))
    (tSeq (tIfS (tOr (tNot (L2.tB (tCall (SpD K Φ__law_right) [] E0 (tCons (tVar 3) (tCons (tVar 4) tNil))))) (tTest (tOp (rNeD K) (tVar 4) (tVar 5)))) (tRet (tC (.bl false))) tNext)
    (tFor (iList K (tCall (SpD K Φ__law_wrong_wishes) [] E0 (tCons (tOp (rIx K) (tVar 3) (tC (.int 0))) tNil))) (gName 6) (tIfS (tNot (L2.tB (tCall (SpD K Φ__law_refused) [] E0 (tCons (tVar 3) (tCons (tVar 6) tNil))))) (tRet (tC (.bl false))) tNext))))))))
    (tSeq (tAsg (tTup (tCons (tOp rPowI (tC (.int 10)) (tC (.int 9))) (tCons (tC (.int 1)) tNil))) (gName 7))
    (tSeq (tAsg (tTup (tCons (tC (.int 4)) (tCons (tTup (tCons (tTup (tCons (tC (.int 0)) (tCons (tC (.int 2)) (tCons (tVar 7) tNil)))) (tCons (tTup (tCons (tC (.int 1)) (tCons (tC (.int 3)) (tCons (tVar 7) tNil)))) tNil))) tNil))) (gName 8))
    (tSeq (tAsg (tTup (tCons (tC (.int 4)) (tCons (tTup (tCons (tTup (tCons (tC (.int 0)) (tCons (tC (.int 2)) (tCons (tTup (tCons (tC (.int 1)) (tCons (tC (.int 999)) tNil))) tNil)))) (tCons (tTup (tCons (tC (.int 1)) (tCons (tC (.int 3)) (tCons (tTup (tCons (tC (.int 1)) (tCons (tC (.int 1000)) tNil))) tNil)))) tNil))) tNil))) (gName 9))
    (tSeq (tAsg (tLst (tCons (tTup (tCons (tC (.int 0)) (tCons (tC (.int 1)) (tCons (tC (.int 0)) tNil)))) (tCons (tTup (tCons (tC (.int 2)) (tCons (tC (.int 3)) (tCons (tC (.int 0)) tNil)))) tNil))) (gName 10))
    (tSeq (tIfS (tOr (tNot (L2.tB (tCall (SpD K Φ__law_right) [] E0 (tCons (tVar 8) (tCons (tVar 10) tNil))))) (tOr (tNot (L2.tB (tCall (SpD K Φ__law_right) [] E0 (tCons (tVar 9) (tCons (tVar 10) tNil))))) (tNot (L2.tB (tCall (SpD K Φ__law_right) [] E0 (tCons (tVar 8) (tCons (tLst (tCons (tTup (tCons (tC (.int 0)) (tCons (tC (.int 1)) (tCons (tC (.int 0)) tNil)))) (tCons (tTup (tCons (tC (.int 3)) (tCons (tC (.int 2)) (tCons (tC (.int 1)) tNil)))) tNil))) tNil))))))) (tRet (tC (.bl false))) tNext)
    (tSeq (tFor (iList K (tLst (tCons (tVar 8) (tCons (tVar 9) tNil)))) (gName 3) (tSeq (tIfS (tNot (L2.tB (tCB (rIsH K) (tCons (tCall (SpD K Φ__law_caught) [] E0 (tCons (tVar 3) (tCons (tVar 10) tNil))) (tCons (tC (.ref C_TooGreat)) tNil))))) (tRet (tC (.bl false))) tNext)
    (tFor (iList K (tLst (tCons (tTup (tCons (tC (.int 0)) (tCons (tC (.int 1)) (tCons (tC (.int 1)) tNil)))) (tCons (tTup (tCons (tC (.int 1)) (tCons (tC (.int 0)) (tCons (tC (.int 1)) tNil)))) (tCons (tTup (tCons (tC (.int 3)) (tCons (tC (.int 2)) (tCons (tC (.int 1)) tNil)))) tNil))))) (gName 11) (tIfS (tOr (tTest (tOp rNotNn (tCall (SpY K Φ_glued) [] E0 (tCons (tVar 3) (tCons (tOp rCat (tVar 10) (tLst (tCons (tVar 11) tNil))) tNil))) (tC .non))) (tTest (tOp rNotNn (tCall (SpY K Φ_glued) [] E0 (tCons (tVar 3) (tCons (tCB (rTupQ K) (tCons (tOp rCat (tLst (tCons (tVar 11) tNil)) (tVar 10)) tNil)) tNil))) (tC .non)))) (tRet (tC (.bl false))) tNext))))
    (tRet (tC (.bl true))))))))))
theorem dv_law {f : Addr} {cdv : Value} {A : Around} {outer : List Env} {s : Shared} {H : Hp} {E : XK} (hr : Room 9 (A.deeper (envOfC "law" (defScope s_law) s.heap.objs.size f cdv))) (B : ∀ x, x ∈ blt → mg x = none) (cs : Csts mg) {C_CutError C_NoWeb C_NoSide C_NoWishes C_TooGreat : Addr} (cl : Cls K mg C_CutError C_NoWeb C_NoSide C_NoWishes C_TooGreat) {Φ__law_stream : Ph} {Φ__law_cell_at : Ph} {Φ__law_web : Ph} {Φ__law_wishes : Ph} {Φ__law_right : Ph} {Φ__law_wrong_wishes : Ph} {Φ__law_refused : Ph} {Φ__law_caught : Ph} {Φ_glued : PhY} (g__law_stream : Kn Pg w K mg base "_law_stream" 1 ["_law_cell", "_law_many"] Φ__law_stream) (g__law_cell_at : Kn Pg w K mg base "_law_cell_at" 1 ["_law_script", "_law_k"] Φ__law_cell_at) (g__law_web : Kn Pg w K mg base "_law_web" 3 ["_law_xs", "_law_most"] Φ__law_web) (g__law_wishes : Kn Pg w K mg base "_law_wishes" 2 ["_law_many", "_law_xs"] Φ__law_wishes) (g__law_right : Kn Pg w K mg base "_law_right" 9 ["_law_web_here", "_law_wishes_here"] Φ__law_right) (g__law_wrong_wishes : Kn Pg w K mg base "_law_wrong_wishes" 1 ["_law_many"] Φ__law_wrong_wishes) (g__law_refused : Kn Pg w K mg base "_law_refused" 9 ["_law_web_here", "_law_wishes_here"] Φ__law_refused) (g__law_caught : Kn Pg w K mg base "_law_caught" 8 ["_law_web_here", "_law_wishes_here"] Φ__law_caught) (g_glued : KnY Pg w K mg base "glued" 7 ["web", "wishes"] Φ_glued) :
    PSs (cxOf CX0 Pg w K mg base ["_law_script", "_law_k", "_law_xs", "_law_web_here", "_law_wishes_here", "_law_kept", "_law_thing", "_law_far", "_law_great", "_law_fine", "_law_some", "_law_odd"] "law" (defScope s_law) f cdv A outer s H E).nox (defBody s_law) (t_law K C_CutError C_NoWeb C_NoSide C_NoWishes C_TooGreat Φ__law_stream Φ__law_cell_at Φ__law_web Φ__law_wishes Φ__law_right Φ__law_wrong_wishes Φ__law_refused Φ__law_caught Φ_glued) :=
  (pss_cons (ps_for PassesOwn.never rfl (pi_range1 (by rfl) (B "range" (by decide)) (pa_cons (pe_callB (call_max2 rfl) (by rfl) (B "max" (by decide)) (by decide +kernel) (pa_cons pe_int (pa_cons (pe_callB (call_min2 rfl) (by rfl) (B "min" (by decide)) (by decide +kernel) (pa_cons pe_int (pa_cons (pe_callB call_len_seq (by rfl) (B "len" (by decide)) (by decide +kernel) (pa_cons (pv 0) pa_nil)) pa_nil))) pa_nil))) pa_nil)) (pg_name (i := 1) sc_law.nd rfl (by first | exact .inl rfl | exact .inr rfl)) (pss_cons (ps_set (i := 2) sc_law.nd rfl (by first | exact .inl rfl | exact .inr rfl) (pe_callD g__law_stream (hr.mono (by decide)) (by rfl) (pa_cons (pe_op op_add (pe_callD g__law_cell_at (hr.mono (by decide)) (by rfl) (pa_cons (pv 0) (pa_cons (pv 1) pa_nil))) (pv 1)) (pa_cons pe_int pa_nil))))
      (pss_cons (ps_set (i := 3) sc_law.nd rfl (by first | exact .inl rfl | exact .inr rfl) (pe_callD g__law_web (hr.mono (by decide)) (by rfl) (pa_cons (pv 2) (pa_cons pe_int pa_nil))))
      (pss_cons (ps_set (i := 4) sc_law.nd rfl (by first | exact .inl rfl | exact .inr rfl) (pe_callD g__law_wishes (hr.mono (by decide)) (by rfl) (pa_cons (pe_ix ix_seq (pv 3) pe_int (fun _ _ => rfl)) (pa_cons (pv 2) pa_nil))))
      (pss_cons (ps_set (i := 5) sc_law.nd rfl (by first | exact .inl rfl | exact .inr rfl) (pe_callTy call_list_of (by rfl) (B "list" (by decide)) (by decide +kernel) (pa_cons (pv 4) pa_nil)))
      (pss_cons (ps_if (PW.pt (pw_or (pt_not (pt_val (pe_callD g__law_right (hr.mono (by decide)) (by rfl) (pa_cons (pv 3) (pa_cons (pv 4) pa_nil))))) (pw_or1 (pt_cmpR (op_neD hr.units) (pv 4) (pv 5) (nomark _))))) (pss_one (ps_ret pe_bl)) pss_nil)
      (pss_one (ps_for PassesOwn.never rfl (pi_list (pe_callD g__law_wrong_wishes (hr.mono (by decide)) (by rfl) (pa_cons (pe_ix ix_seq (pv 3) pe_int (fun _ _ => rfl)) pa_nil))) (pg_name (i := 6) sc_law.nd rfl (by first | exact .inl rfl | exact .inr rfl)) (pss_one (ps_if (pt_not (pt_val (pe_callD g__law_refused (hr.mono (by decide)) (by rfl) (pa_cons (pv 3) (pa_cons (pv 6) pa_nil))))) (pss_one (ps_ret pe_bl)) pss_nil))))))))))
      (pss_cons (ps_set (i := 7) sc_law.nd rfl (by first | exact .inl rfl | exact .inr rfl) (pe_tup (pa_cons (pe_op op_pow pe_int pe_int) (pa_cons pe_int pa_nil))))
      (pss_cons (ps_set (i := 8) sc_law.nd rfl (by first | exact .inl rfl | exact .inr rfl) (pe_tup (pa_cons pe_int (pa_cons (pe_tup (pa_cons (pe_tup (pa_cons pe_int (pa_cons pe_int (pa_cons (pv 7) pa_nil)))) (pa_cons (pe_tup (pa_cons pe_int (pa_cons pe_int (pa_cons (pv 7) pa_nil)))) pa_nil))) pa_nil))))
      (pss_cons (ps_set (i := 9) sc_law.nd rfl (by first | exact .inl rfl | exact .inr rfl) (pe_tup (pa_cons pe_int (pa_cons (pe_tup (pa_cons (pe_tup (pa_cons pe_int (pa_cons pe_int (pa_cons (pe_tup (pa_cons pe_int (pa_cons pe_int pa_nil))) pa_nil)))) (pa_cons (pe_tup (pa_cons pe_int (pa_cons pe_int (pa_cons (pe_tup (pa_cons pe_int (pa_cons pe_int pa_nil))) pa_nil)))) pa_nil))) pa_nil))))
      (pss_cons (ps_set (i := 10) sc_law.nd rfl (by first | exact .inl rfl | exact .inr rfl) (pe_lst (pa_cons (pe_tup (pa_cons pe_int (pa_cons pe_int (pa_cons pe_int pa_nil)))) (pa_cons (pe_tup (pa_cons pe_int (pa_cons pe_int (pa_cons pe_int pa_nil)))) pa_nil))))
      (pss_cons (ps_if (PW.pt (pw_or (pt_not (pt_val (pe_callD g__law_right (hr.mono (by decide)) (by rfl) (pa_cons (pv 8) (pa_cons (pv 10) pa_nil))))) (pw_or (pt_not (pt_val (pe_callD g__law_right (hr.mono (by decide)) (by rfl) (pa_cons (pv 9) (pa_cons (pv 10) pa_nil))))) (pw_or1 (pt_not (pt_val (pe_callD g__law_right (hr.mono (by decide)) (by rfl) (pa_cons (pv 8) (pa_cons (pe_lst (pa_cons (pe_tup (pa_cons pe_int (pa_cons pe_int (pa_cons pe_int pa_nil)))) (pa_cons (pe_tup (pa_cons pe_int (pa_cons pe_int (pa_cons pe_int pa_nil)))) pa_nil))) pa_nil))))))))) (pss_one (ps_ret pe_bl)) pss_nil)
      (pss_cons (ps_for PassesOwn.never rfl (pi_list (pe_lst (pa_cons (pv 8) (pa_cons (pv 9) pa_nil)))) (pg_name (i := 3) sc_law.nd rfl (by first | exact .inl rfl | exact .inr rfl)) (pss_cons (ps_if (pt_not (pt_val (pe_callB call_isH (by rfl) (B "isinstance" (by decide)) (by decide +kernel) (pa_cons (pe_callD g__law_caught (hr.mono (by decide)) (by rfl) (pa_cons (pv 3) (pa_cons (pv 10) pa_nil))) (pa_cons (pe_glob rfl cl.g_TooGreat rfl) pa_nil))))) (pss_one (ps_ret pe_bl)) pss_nil)
      (pss_one (ps_for PassesOwn.never rfl (pi_list (pe_lst (pa_cons (pe_tup (pa_cons pe_int (pa_cons pe_int (pa_cons pe_int pa_nil)))) (pa_cons (pe_tup (pa_cons pe_int (pa_cons pe_int (pa_cons pe_int pa_nil)))) (pa_cons (pe_tup (pa_cons pe_int (pa_cons pe_int (pa_cons pe_int pa_nil)))) pa_nil))))) (pg_name (i := 11) sc_law.nd rfl (by first | exact .inl rfl | exact .inr rfl)) (pss_one (ps_if (PW.pt (pw_or (pt_cmpR op_notN (pe_callY0 g_glued (hr.mono (by decide)) (by rfl) (pa_cons (pv 3) (pa_cons (pe_op op_cat (pv 10) (pe_lst (pa_cons (pv 11) pa_nil))) pa_nil))) pe_non (nomark _)) (pw_or1 (pt_cmpR op_notN (pe_callY0 g_glued (hr.mono (by decide)) (by rfl) (pa_cons (pv 3) (pa_cons (pe_callTy call_tuple_of (by rfl) (B "tuple" (by decide)) (by decide +kernel) (pa_cons (pe_op op_cat (pe_lst (pa_cons (pv 11) pa_nil)) (pv 10)) pa_nil)) pa_nil))) pe_non (nomark _))))) (pss_one (ps_ret pe_bl)) pss_nil))))))
      (pss_one (ps_ret pe_bl)))))))))
end
local macro_rules | `(tactic| walk_at "ev") => `(tactic| first
  | ((with_reducible apply e_var); exact rfl) | ((with_reducible apply e_varm); exact rfl) | ((with_reducible apply e_vars); exact rfl)
  | with_reducible refine e_int ?_ | with_reducible refine e_bl ?_ | with_reducible refine e_non ?_ | with_reducible refine e_str ?_
  | with_reducible refine e_op ?_ | with_reducible refine e_un ?_
  | ((with_reducible refine rr_I0 ?_); refine ⟨_, _, rfl, rfl, ?_⟩) | ((with_reducible refine rr_B0 ?_); refine ⟨_, _, rfl, rfl, ?_⟩)
  | ((with_reducible refine rr_isB ?_); refine ⟨_, _, rfl, rfl, ?_⟩) | ((with_reducible refine rr_notB ?_); refine ⟨_, _, rfl, rfl, ?_⟩)
  | ((with_reducible refine ru_I ?_); refine ⟨_, rfl, ?_⟩)
  | with_reducible refine e_isi instInt ?_ | with_reducible refine e_isi instBool ?_ | with_reducible refine e_isi instTuple ?_ | with_reducible refine e_isiT instList instTuple ?_
  | with_reducible refine e_cb ?_ | with_reducible refine e_call ?_ | with_reducible refine e_callX0 ?_ | with_reducible refine e_chain ?_
  | with_reducible refine ea_cons ?_ | with_reducible refine ea_nil ?_
  | with_reducible refine e_slL ?_ | with_reducible refine eo_some ?_ | with_reducible refine eo_none ?_
  | with_reducible refine e_tup ?_ | with_reducible refine e_lst ?_
  | with_reducible refine e_and ?_ | with_reducible refine e_or ?_ | with_reducible refine e_not ?_ | with_reducible refine e_if ?_
  | with_reducible refine et_test ?_ | with_reducible refine et_B ?_ | with_reducible refine et_and ?_ | with_reducible refine et_or ?_ | with_reducible refine et_not ?_ | with_reducible refine et_yes ?_
  | with_reducible refine s_seq ?_ | with_reducible refine s_asg ?_ | with_reducible refine s_ret ?_ | with_reducible refine s_drop ?_ | with_reducible refine s_if ?_ | with_reducible refine s_next ?_ | with_reducible refine s_par ?_
  | ((with_reducible refine rc_abs ?_); refine ⟨_, rfl, ?_⟩) | ((with_reducible refine rc_max ?_); refine ⟨_, _, rfl, ?_⟩) | ((with_reducible refine rc_min ?_); refine ⟨_, _, rfl, ?_⟩)
  | ((with_reducible refine rr_ix ?_); first | refine ⟨_, _, _, .inr (.d _), rfl, atI_nat (j := 0) rfl, ?_⟩ | refine ⟨_, _, _, .inr (.d _), rfl, atI_nat (j := 1) rfl, ?_⟩ | refine ⟨_, _, _, .inr (.d _), rfl, atI_nat (j := 2) rfl, ?_⟩ | refine ⟨_, _, _, .inl (.d _), rfl, atI_nat (j := 0) rfl, ?_⟩ | refine ⟨_, _, _, .inl (.d _), rfl, atI_nat (j := 1) rfl, ?_⟩ | refine ⟨_, _, _, .inl (.d _), rfl, atI_nat (j := 2) rfl, ?_⟩)
  | ((with_reducible apply Exists.intro); first | refine ⟨(rfl : _ = List.map SD.d []), Nat.le_of_ble_eq_true rfl, ?_⟩ | refine ⟨(rfl : _ = List.map SD.d [_]), Nat.le_of_ble_eq_true rfl, ?_⟩ | refine ⟨(rfl : _ = List.map SD.d [_, _]), Nat.le_of_ble_eq_true rfl, ?_⟩ | refine ⟨(rfl : _ = List.map SD.d [_, _, _]), Nat.le_of_ble_eq_true rfl, ?_⟩ | refine ⟨(rfl : _ = List.map SD.d [_, _, _, _]), Nat.le_of_ble_eq_true rfl, ?_⟩ | refine ⟨Sv.d _, nofun, ?_⟩ | refine ⟨Sv.d _, ?_⟩ | refine ⟨rfl, ?_⟩ | ((with_reducible apply Exists.intro); refine ⟨rfl, ?_⟩)))
local macro_rules | `(tactic| walk_at "evs") => `(tactic| repeat walk_at "ev")

def Φ_is_whole : Ph := ph1 fun a ms R => ∃ x, a = .d x ∧ R (.d (.bool (isWhole x))) ms
theorem len_is_whole : ∀ as ms R, Φ_is_whole as ms R → as.length = 1 := ph1_len
theorem rd_is_whole {K : PySem.W.Frag} : ∀ as ms R, Φ_is_whole as ms R → S K (t_is_whole K) (as ++ List.replicate (1 - as.length) .u) ms (fin R) := by
  rintro as ms R ⟨a, rfl, x, rfl, r⟩
  rw [← whole_and] at r
  unfold t_is_whole
  walk_at "evs"
  refine ⟨fun h => ?_, fun h => ?_⟩
  · walk_at "evs"
    rw [h, Bool.true_and] at r
    exact r
  · rw [h, Bool.false_and] at r
    exact r

def Φ_is_row : Ph := ph1 fun a ms R => ∃ x, a = .d x ∧ R (.d (.bool (isRow x))) ms
theorem len_is_row : ∀ as ms R, Φ_is_row as ms R → as.length = 1 := ph1_len
theorem rd_is_row {K : PySem.W.Frag} : ∀ as ms R, Φ_is_row as ms R → S K (t_is_row K) (as ++ List.replicate (1 - as.length) .u) ms (fin R) := by
  rintro as ms R ⟨a, rfl, x, rfl, r⟩
  rw [← inst_row] at r
  unfold t_is_row
  walk_at "evs"
  exact r

def tripB : PyData → Bool
  | .list es => decide (es.length = 3)
  | .tuple es => decide (es.length = 3)
  | _ => false
def Φ_is_triple : Ph := ph1 fun a ms R => ∃ x, a = .d x ∧ R (.d (.bool (tripB x))) ms
theorem len_is_triple : ∀ as ms R, Φ_is_triple as ms R → as.length = 1 := ph1_len
theorem rd_is_triple {K : PySem.W.Frag} : ∀ as ms R, Φ_is_triple as ms R → S K (t_is_triple K Φ_is_row) (as ++ List.replicate (1 - as.length) .u) ms (fin R) := by
  rintro as ms R ⟨a, rfl, x, rfl, r⟩
  unfold t_is_triple
  walk_at "evs"
  refine ⟨_, rfl, x, rfl, ?_⟩
  refine ⟨_, rfl, fun h => ?_, fun h => ?_⟩
  · obtain ⟨es, sv, e⟩ : ∃ es, (Sv ms (.d x) (.list es) ∨ Sv ms (.d x) (.tuple es)) ∧ tripB x = decide (es.length = 3) := by
      cases x with
      | list es => exact ⟨es, .inl (.d _), rfl⟩
      | tuple es => exact ⟨es, .inr (.d _), rfl⟩
      | _ => cases h
    walk_at "evs"
    refine rc_len ⟨_, es, rfl, sv, ?_⟩
    walk_at "evs"
    refine rr_eq ⟨_, _, .d _, .d _, shaped_int _, shaped_int _, ?_⟩
    rw [eqv_int]
    rw [e] at r
    have : decide (((es.length : Nat) : Int) = 3) = decide (es.length = 3) := decide_eq_decide.mpr (by omega)
    rw [this]
    exact r
  · have e : tripB x = false := by
      cases x with
      | list es => cases h
      | tuple es => cases h
      | _ => rfl
    rw [e] at r
    exact r

def numB (m : Int) : PyData → Bool
  | .int i => decide (0 ≤ i) && decide (i < m)
  | _ => false
def Φ_is_number_of : Ph := ph2 fun a b ms R => ∃ m x, a = .d (.int m) ∧ b = .d x ∧ R (.d (.bool (numB m x))) ms
theorem len_is_number_of : ∀ as ms R, Φ_is_number_of as ms R → as.length = 2 := ph2_len
theorem rd_is_number_of {K : PySem.W.Frag} : ∀ as ms R, Φ_is_number_of as ms R → S K (t_is_number_of K Φ_is_whole) (as ++ List.replicate (2 - as.length) .u) ms (fin R) := by
  rintro as ms R ⟨a, b, rfl, m, x, rfl, rfl, r⟩
  unfold t_is_number_of
  walk_at "evs"
  refine ⟨_, rfl, x, rfl, _, rfl, fun h => ?_, fun h => ?_⟩
  · obtain ⟨i, rfl⟩ := whole_inv h
    walk_at "evs"
    refine ⟨fun h2 => ?_, fun h2 => ?_⟩
    · walk_at "evs"
      rintro b' rfl
      walk_at "evs"
      have e : numB m (.int i) = decide (i < m) := by show (decide (0 ≤ i) && decide (i < m)) = _; rw [h2, Bool.true_and]
      rw [e] at r
      exact r
    · have e : numB m (.int i) = false := by show (decide (0 ≤ i) && decide (i < m)) = _; rw [h2, Bool.false_and]
      rw [e] at r
      exact r
  · have e : numB m x = false := by
      cases x with
      | int i => cases h
      | _ => rfl
    rw [e] at r
    exact r

def unlB (m : Int) (x y : PyData) : Bool := numB m x && (numB m y && !PyData.eqv x y)
def Φ_are_unlike_points : Ph := ph3 fun a b c ms R => ∃ m x y, a = .d (.int m) ∧ b = .d x ∧ c = .d y ∧ R (.d (.bool (unlB m x y))) ms
theorem len_are_unlike_points : ∀ as ms R, Φ_are_unlike_points as ms R → as.length = 3 := ph3_len
theorem numI {n : Int} {e : PyData} (h : numB n e = true) : ∃ i : Int, e = .int i := by
  cases e with
  | int i => exact ⟨i, rfl⟩
  | _ => cases h
theorem rd_are_unlike_points {K : PySem.W.Frag} : ∀ as ms R, Φ_are_unlike_points as ms R → S K (t_are_unlike_points K Φ_is_number_of) (as ++ List.replicate (3 - as.length) .u) ms (fin R) := by
  rintro as ms R ⟨a, b, c, rfl, m, x, y, rfl, rfl, rfl, r⟩
  unfold t_are_unlike_points
  walk_at "evs"
  refine ⟨_, _, rfl, m, x, rfl, rfl, ?_⟩
  unfold unlB at r
  refine ⟨_, rfl, fun h => ?_, fun h => ?_⟩
  · obtain ⟨i, rfl⟩ := numI h
    rw [h, Bool.true_and] at r
    walk_at "evs"
    refine ⟨_, _, rfl, m, y, rfl, rfl, ?_⟩
    refine ⟨_, rfl, fun h2 => ?_, fun h2 => ?_⟩
    · obtain ⟨j, rfl⟩ := numI h2
      rw [h2, Bool.true_and] at r
      walk_at "evs"
      exact rr_ne ⟨_, _, .d _, .d _, shaped_int _, shaped_int _, r⟩
    · rw [h2, Bool.false_and] at r
      exact r
  · rw [h, Bool.false_and] at r
    exact r

def Φ_common_divisor : Ph := ph2 fun a b ms R => ∃ i j, a = .d (.int i) ∧ b = .d (.int j) ∧ R (.d (.int (Int.gcd i j))) ms
theorem len_common_divisor : ∀ as ms R, Φ_common_divisor as ms R → as.length = 2 := ph2_len
theorem rd_common_divisor {K : PySem.W.Frag} : ∀ as ms R, Φ_common_divisor as ms R → S K (t_common_divisor K) (as ++ List.replicate (2 - as.length) .u) ms (fin R) := by
  rintro as ms R ⟨a, b, rfl, i, j, rfl, rfl, r⟩
  unfold t_common_divisor
  walk_at "evs"
  rw [abs_nat, abs_nat]
  refine s_while (fun m ds ms' => ∃ x y : Nat, ds = [.d (.int x), .d (.int y)] ∧ ms' = ms ∧ Nat.gcd x y = Int.gcd i j ∧ m = y) j.natAbs ⟨i.natAbs, j.natAbs, rfl, rfl, rfl, rfl⟩ ?_
  rintro m ds ms' ⟨x, y, rfl, rfl, hg, hm⟩
  walk_at "evs"
  refine rr_ne ⟨_, _, .d _, .d _, shaped_int _, shaped_int _, _, rfl, ?_, ?_⟩
  · intro h
    walk_at "evs"
    have hy : y ≠ 0 := by
      intro z
      subst z
      rw [eqv_int] at h
      simp at h
    refine rr_I ⟨_, _, rfl, rfl, by omega, ?_⟩
    walk_at "evs"
    rw [fmod_nat]
    exact ⟨x % y, by rw [hm]; exact Nat.mod_lt _ (by omega), y, x % y, rfl, rfl, by rw [gcd_step]; exact hg, rfl⟩
  · intro h
    walk_at "evs"
    have hy : y = 0 := by
      rw [eqv_int] at h
      simp at h
      omega
    subst hy
    rw [Nat.gcd_zero_right] at hg
    rw [hg]
    exact r

def Φ_is_fraction : Ph := ph1 fun a ms R => ∃ x, a = .d x ∧ R (.d (.bool (isFrac x))) ms
theorem len_is_fraction : ∀ as ms R, Φ_is_fraction as ms R → as.length = 1 := ph1_len
theorem rd_is_fraction {K : PySem.W.Frag} : ∀ as ms R, Φ_is_fraction as ms R → S K (t_is_fraction K Φ_is_whole Φ_common_divisor) (as ++ List.replicate (3 - as.length) .u) ms (fin R) := by
  rintro as ms R ⟨a, rfl, x, rfl, r⟩
  unfold t_is_fraction
  walk_at "evs"
  refine ⟨fun h => ?_, fun h => ?_⟩
  · rw [inst_tup] at h
    refine ⟨fun _ => ?_, nofun⟩
    rw [isFrac_kind (by simpa using h)] at r
    walk_at "evs"
    exact r
  · rw [inst_tup] at h
    obtain ⟨xs, rfl⟩ := tup_inv (by simpa using h)
    walk_at "evs"
    refine rc_len ⟨_, xs, rfl, .inr (.d _), ?_⟩
    walk_at "evs"
    refine rr_ne ⟨_, _, .d _, .d _, shaped_int _, shaped_int _, _, rfl, fun h2 => ?_, fun h2 => ?_⟩
    · rw [eqv_int] at h2
      rw [isFrac_len (by simp at h2; omega)] at r
      walk_at "evs"
      exact r
    · rw [eqv_int] at h2
      obtain ⟨p, q, rfl⟩ : ∃ p q, xs = [p, q] := by
        match xs, h2 with
        | [], z => simp at z
        | [_], z => simp at z
        | [p, q], _ => exact ⟨p, q, rfl⟩
        | _ :: _ :: _ :: l, z => simp at z; omega
      walk_at "evs"
      refine s_asgG (js := [1, 2]) ?_
      walk_at "evs"
      refine eg_tup rfl (egs_cons (eg_name (egs_cons (eg_name (egs_nil ?_)))))
      walk_at "evs"
      refine ⟨_, rfl, p, rfl, _, rfl, ?_, ?_⟩
      · intro h3
        refine ⟨fun _ => ?_, nofun⟩
        rw [isFrac_one (by simpa using h3)] at r
        walk_at "evs"
        exact r
      · intro h3
        obtain ⟨i, rfl⟩ := whole_inv (by simpa using h3)
        walk_at "evs"
        refine ⟨_, rfl, q, rfl, _, rfl, ?_, ?_⟩
        · intro h4
          rw [isFrac_two (by simpa using h4)] at r
          walk_at "evs"
          exact r
        · intro h4
          obtain ⟨j, rfl⟩ := whole_inv (by simpa using h4)
          walk_at "evs"
          refine ⟨fun h5 => ?_, fun h5 => ?_⟩
          · walk_at "evs"
            refine ⟨_, _, rfl, i, j, rfl, rfl, ?_⟩
            walk_at "evs"
            refine rr_eq ⟨_, _, .d _, .d _, shaped_int _, shaped_int _, ?_⟩
            rw [eqv_int]
            have e : isFrac (.tuple [.int i, .int j]) = decide ((Int.gcd i j : Int) = 1) := by
              show (decide (1 ≤ j) && decide (Int.gcd i j = 1)) = _
              rw [h5, Bool.true_and]
              by_cases z : Int.gcd i j = 1
              · rw [z]; rfl
              · rw [decide_eq_false z, decide_eq_false (by omega)]
            rw [e] at r
            exact r
          · have e : isFrac (.tuple [.int i, .int j]) = false := by
              show (decide (1 ≤ j) && decide (Int.gcd i j = 1)) = _
              rw [h5, Bool.false_and]
            rw [e] at r
            exact r

def Φ_as_fraction : Ph := ph2 fun a b ms R => ∃ i j, a = .d (.int i) ∧ b = .d (.int j) ∧ j ≠ 0 ∧ Bd 8000 j ∧ R (.d (pr (fr i j))) ms
theorem len_as_fraction : ∀ as ms R, Φ_as_fraction as ms R → as.length = 2 := ph2_len
theorem rd_as_fraction {K : PySem.W.Frag} : ∀ as ms R, Φ_as_fraction as ms R → S K (t_as_fraction K Φ_common_divisor) (as ++ List.replicate (3 - as.length) .u) ms (fin R) := by
  rintro as ms R ⟨a, b, rfl, i, j, rfl, rfl, hj, hb, r⟩
  have hg : 0 < Int.gcd i j := Int.gcd_pos_of_ne_zero_right i hj
  have hgb : Bd 8000 (Int.gcd i j : Int) := hb.le (by
    have := Int.gcd_le_natAbs_right i hj
    omega)
  unfold t_as_fraction
  walk_at "evs"
  refine ⟨_, _, rfl, i, j, rfl, rfl, ?_⟩
  walk_at "evs"
  refine ⟨fun h => ?_, fun h => ?_⟩
  · walk_at "evs"
    refine rr_I ⟨_, _, rfl, rfl, ⟨by omega, hgb.neg⟩, ?_⟩
    walk_at "evs"
    refine rr_I ⟨_, _, rfl, rfl, ⟨by omega, hgb.neg⟩, ?_⟩
    walk_at "evs"
    have e : fr i j = (i.fdiv (-(Int.gcd i j : Int)), j.fdiv (-(Int.gcd i j : Int))) := if_pos (by simpa using h)
    rw [e] at r
    exact r
  · walk_at "evs"
    refine rr_I ⟨_, _, rfl, rfl, ⟨by omega, hgb⟩, ?_⟩
    walk_at "evs"
    refine rr_I ⟨_, _, rfl, rfl, ⟨by omega, hgb⟩, ?_⟩
    walk_at "evs"
    have e : fr i j = (i.fdiv (Int.gcd i j), j.fdiv (Int.gcd i j)) := if_neg (by simpa using h)
    rw [e] at r
    exact r

def Φ_plus : Ph := ph2 fun a b ms R => ∃ p q : Int × Int, a = .d (pr p) ∧ b = .d (pr q) ∧ (p.2 ≠ 0 ∧ q.2 ≠ 0 ∧ Bd 20000 p.1 ∧ Bd 4000 p.2 ∧ Bd 20000 q.1 ∧ Bd 4000 q.2) ∧ R (.d (pr (fr (p.1 * q.2 + q.1 * p.2) (p.2 * q.2)))) ms
theorem len_plus : ∀ as ms R, Φ_plus as ms R → as.length = 2 := ph2_len
theorem rd_plus {K : PySem.W.Frag} : ∀ as ms R, Φ_plus as ms R → S K (t_plus K Φ_as_fraction) (as ++ List.replicate (2 - as.length) .u) ms (fin R) := by
  rintro as ms R ⟨a, b, rfl, p, q, rfl, rfl, ⟨hp, hq, b1, b2, b3, b4⟩, r⟩
  have up : ∀ {x : Int}, Bd 20000 x → Bd 100000 x := fun h => h.mono (by decide)
  have uq : ∀ {x : Int}, Bd 4000 x → Bd 100000 x := fun h => h.mono (by decide)
  unfold t_plus
  walk_at "evs"
  refine rr_I ⟨_, _, rfl, rfl, ⟨up b1, uq b4⟩, ?_⟩
  walk_at "evs"
  refine rr_I ⟨_, _, rfl, rfl, ⟨up b3, uq b2⟩, ?_⟩
  walk_at "evs"
  refine rr_I ⟨_, _, rfl, rfl, ⟨uq b2, uq b4⟩, ?_⟩
  walk_at "evs"
  exact ⟨_, _, rfl, _, _, rfl, rfl, Int.mul_ne_zero hp hq, (b2.mul b4).mono (by decide), r⟩

def halve : List (Int × Int) → List (Int × Int)
  | [] => []
  | [a] => [a]
  | a :: b :: r => pl a b :: halve r
def aloneL {α : Type} (gs : List α) : List α := if gs.length % 2 = 1 then gs.drop (gs.length - 1) else []
theorem halve_is : ∀ gs : List (Int × Int), List.zipWith pl (ev2 gs) (ev2 (gs.drop 1)) ++ aloneL gs = halve gs
  | [] => rfl
  | [a] => rfl
  | [a, b] => by simp [ev2, aloneL, halve]
  | a :: b :: c :: r => by
    have ih := halve_is (c :: r)
    have e1 : ev2 ((a :: b :: c :: r).drop 1) = b :: ev2 ((c :: r).drop 1) := by
      cases r <;> rfl
    have e2 : aloneL (a :: b :: c :: r) = aloneL (c :: r) := by
      unfold aloneL
      have h1 : (a :: b :: c :: r).length % 2 = (c :: r).length % 2 := by simp only [List.length_cons]; omega
      rw [h1]
      have h2 : (a :: b :: c :: r).length - 1 = ((c :: r).length - 1) + 2 := by simp only [List.length_cons]; omega
      rw [h2]
      rfl
    rw [e1, e2]
    show pl a b :: (List.zipWith pl (ev2 (c :: r)) (ev2 ((c :: r).drop 1)) ++ aloneL (c :: r)) = pl a b :: halve (c :: r)
    rw [ih]
theorem halve_len : ∀ gs : List (Int × Int), (halve gs).length = (gs.length + 1) / 2
  | [] => by simp [halve]
  | [a] => by simp [halve]
  | a :: b :: r => by simp only [halve, List.length_cons, halve_len r]; omega
theorem ev2_map {α β : Type} (f : α → β) : ∀ l : List α, ev2 (l.map f) = (ev2 l).map f
  | [] => rfl
  | [a] => rfl
  | a :: b :: r => by simp only [List.map_cons, ev2, ev2_map f r]
structure Lp (j : Nat) (g : Int × Int) : Prop where
  lo : Lo g
  b1 : Bd (44 * 2 ^ j) g.1
  b2 : Bd (10 * 2 ^ j) g.2
theorem Lp.pl {j : Nat} {p q : Int × Int} (a : Lp j p) (b : Lp j q) : Lp (j + 1) (pl p q) := by
  have h1 : p.2 ≠ 0 := by have := a.lo.pos; omega
  have h2 : q.2 ≠ 0 := by have := b.lo.pos; omega
  have hne := Int.mul_ne_zero h1 h2
  have hx : 1 ≤ 2 ^ j := Nat.one_le_two_pow
  have e : 2 ^ (j + 1) = 2 * 2 ^ j := by rw [Nat.pow_succ]; omega
  generalize hX : 2 ^ j = X at *
  have x1 : Bd (54 * X) (p.1 * q.2) := by
    have := a.b1.mul b.b2
    rw [hX] at this
    exact this.mono (by omega)
  have x2 : Bd (54 * X) (q.1 * p.2) := by
    have := b.b1.mul a.b2
    rw [hX] at this
    exact this.mono (by omega)
  refine ⟨pl_lo h1 h2, ?_, ?_⟩
  · have y : Bd (54 * X + 1) (p.1 * q.2 + q.1 * p.2) := x1.add x2
    rw [e]
    exact (y.le (fr_le hne).1).mono (by omega)
  · have y := a.b2.mul b.b2
    rw [hX] at y
    rw [e]
    exact (y.le (fr_le hne).2).mono (by omega)
theorem halve_lp {j : Nat} : ∀ gs : List (Int × Int), (∀ g ∈ gs, Lp j g) → ∀ g ∈ halve gs, Lp (j + 1) g
  | [], _, g, hg => by cases hg
  | [a], h, g, hg => by
    have e : g = a := by simpa [halve] using hg
    have ha := h a (by simp)
    subst e
    exact ⟨ha.lo, ha.b1.mono (by rw [Nat.pow_succ]; omega), ha.b2.mono (by rw [Nat.pow_succ]; omega)⟩
  | a :: b :: r, h, g, hg => by
    rcases List.mem_cons.mp hg with rfl | hg
    · exact (h a (by simp)).pl (h b (by simp))
    · exact halve_lp r (fun x hx => h x (by simp [hx])) g hg
theorem halve_sum : ∀ gs : List (Int × Int), (∀ g ∈ gs, Lo g) → sumV (halve gs) = sumV gs
  | [], _ => rfl
  | [a], _ => rfl
  | a :: b :: r, h => by
    have h1 : a.2 ≠ 0 := by have := (h a (by simp)).pos; omega
    have h2 : b.2 ≠ 0 := by have := (h b (by simp)).pos; omega
    have ih := halve_sum r fun x hx => h x (by simp [hx])
    show val (pl a b) + sumV (halve r) = val a + (val b + sumV r)
    rw [ih, pl_val h1 h2]
    grind
def Φ_added : Ph := ph1 fun a ms R => ∃ fs : List (Int × Int), a = .d (.list (fs.map pr)) ∧ fs.length ≤ 200 ∧ (∀ f ∈ fs, Wt f) ∧ R (.d (pr (sumF fs))) ms
theorem len_added : ∀ as ms R, Φ_added as ms R → as.length = 1 := ph1_len
theorem rd_added {K : PySem.W.Frag} : ∀ as ms R, Φ_added as ms R → S K (t_added K Φ_plus) (as ++ List.replicate (5 - as.length) .u) ms (fin R) := by
  rintro as ms R ⟨a, rfl, fs, rfl, hl, hw, r⟩
  unfold t_added
  walk_at "evs"
  refine rc_list ⟨_, _, rfl, .inl (.d _), ?_⟩
  refine s_mid (fun ds' ms' => ∃ (g : List (Int × Int)) (o1 o2 o3 : SD), ds' = [.d (.list (fs.map pr)), .d (.list (g.map pr)), o1, o2, o3] ∧ ms' = ms ∧ ((g = [] ∧ fs = []) ∨ g = [sumF fs])) ?_ ?_
  · refine s_while (fun m ds' ms' => ∃ (gs : List (Int × Int)) (j : Nat) (o1 o2 o3 : SD), ds' = [.d (.list (fs.map pr)), .d (.list (gs.map pr)), o1, o2, o3] ∧ ms' = ms ∧ m = gs.length ∧ (∀ g ∈ gs, Lp j g) ∧ sumV gs = sumV fs ∧ (gs.length - 1) * 2 ^ j < 200 ∧ (gs = [] → fs = [])) fs.length ⟨fs, 0, .u, .u, .u, rfl, rfl, rfl, fun g hg => ?_, rfl, by omega, id⟩ ?_
    · have := hw g hg
      exact ⟨this.lo, this.b1.mono (by decide), this.b2.mono (by decide)⟩
    · rintro m ds' ms' ⟨gs, j, o1, o2, o3, rfl, rfl, rfl, hg, hs, hb, hn⟩
      walk_at "evs"
      refine rc_len ⟨_, _, rfl, .inl (.d _), ?_⟩
      walk_at "evs"
      refine ⟨fun h => ?_, fun h => ?_⟩
      · have h2 : 2 ≤ gs.length := by
          rw [List.length_map] at h
          have := of_decide_eq_true h
          omega
        have hj : 2 ^ j < 200 := by
          have : 1 * 2 ^ j ≤ (gs.length - 1) * 2 ^ j := Nat.mul_le_mul_right _ (by omega)
          omega
        refine s_mid (fun ds' ms1 => ds' = [.d (.list (fs.map pr)), .d (.list (gs.map pr)), .d (.list ((aloneL gs).map pr)), o2, o3] ∧ ms1 = ms') ?_ ?_
        · walk_at "evs"
          refine rc_len ⟨_, _, rfl, .inl (.d _), ?_⟩
          walk_at "evs"
          refine rr_I ⟨_, _, rfl, rfl, by decide, ?_⟩
          walk_at "evs"
          refine rr_eq ⟨_, _, .d _, .d _, shaped_int _, shaped_int _, ?_⟩
          rw [eqv_int, List.length_map]
          have em : Int.fmod (gs.length : Int) 2 = ((gs.length % 2 : Nat) : Int) := fmod_nat gs.length 2
          rw [em]
          refine ⟨_, rfl, fun h => ?_, fun h => ?_⟩
          · have h1 : gs.length % 2 = 1 := by
              have := of_decide_eq_true h
              omega
            refine e_slL (e_var rfl (eo_some (e_un (e_int (ru_I ⟨1, rfl, _, rfl, eo_none ⟨_, .d _, ?_, rfl⟩⟩)))))
            have e : Hc.cutD (gs.map pr) (some (-1)) none = (aloneL gs).map pr := by
              unfold Hc.cutD aloneL
              rw [if_pos h1, HT.sIx_none, List.length_map]
              have : HT.sIx gs.length 0 (some (-1)) = gs.length - 1 := by
                unfold HT.sIx
                simp
                omega
              rw [this, ← List.map_drop, ← List.map_take]
              congr 1
              rw [List.take_of_length_le]
              rw [List.length_drop]
              omega
            show [_, _, SD.d (.list (Hc.cutD (gs.map pr) (some (-1)) none)), _, _] = _
            rw [e]
          · have h1 : ¬ gs.length % 2 = 1 := by
              have := of_decide_eq_false h
              omega
            walk_at "evs"
            refine ⟨?_, rfl⟩
            show [_, _, SD.d (.list []), _, _] = _
            unfold aloneL
            rw [if_neg h1]
            rfl
        · rintro ds' ms1 ⟨rfl, rfl⟩
          walk_at "evs"
          refine e_lcZL (js := [3, 4]) (by simp) ?_
          refine ea_cons (e_step (e_var rfl ⟨_, .d _, ea_cons (e_step (e_var rfl ⟨_, .d _, ea_nil ?_⟩))⟩))
          rw [← List.map_drop, ev2_map, ← List.map_drop, ev2_map]
          have l0 := ev2_len gs
          have l1 := ev2_len (gs.drop 1)
          rw [List.length_drop] at l1
          have hx : 1 ≤ 2 ^ j := Nat.one_le_two_pow
          have hgl : gs.length ≤ 200 := by
            have : (gs.length - 1) * 1 ≤ (gs.length - 1) * 2 ^ j := Nat.mul_le_mul_left _ hx
            omega
          rw [List.drop_zero]
          have mem2 : ∀ {l : List (Int × Int)} {x : Int × Int}, x ∈ ev2 l → x ∈ l := fun {l} => by
            induction l using ev2.induct with
            | case1 => intro x h; simpa [ev2] using h
            | case2 a => intro x h; simpa [ev2] using h
            | case3 a b r ih =>
              intro x h
              rw [ev2] at h
              rcases List.mem_cons.mp h with rfl | h
              · simp
              · simp [ih h]
          refine ⟨_, _, _, _, rfl, .d _, .d _, by rw [List.length_map, ev2_len]; omega, fun k acc ms' => acc = ((List.zipWith pl (ev2 gs) (ev2 (gs.drop 1))).take k).map pr ∧ ms' = ms1, ⟨rfl, rfl⟩, ?_, ?_⟩
          · rintro k e f acc ms' he hf ⟨rfl, rfl⟩
            rw [List.getElem?_map] at he hf
            cases q1 : (ev2 gs)[k]? with
            | none => rw [q1] at he; cases he
            | some p =>
              cases q2 : (ev2 (gs.drop 1))[k]? with
              | none => rw [q2] at hf; cases hf
              | some q =>
                rw [q1] at he
                rw [q2] at hf
                have e1 := (Option.some.inj he).symm
                have e2 := (Option.some.inj hf).symm
                subst e1 e2
                have lp := hg p (mem2 (List.mem_of_getElem? q1))
                have lq := hg q (List.mem_of_mem_drop (mem2 (List.mem_of_getElem? q2)))
                refine eg_tup rfl (egs_cons (eg_name (egs_cons (eg_name (egs_nil ?_)))))
                walk_at "evs"
                refine ⟨fun _ => ?_, nofun⟩
                walk_at "evs"
                refine ⟨_, _, rfl, p, q, rfl, rfl, ⟨by have := lp.lo.pos; omega, by have := lq.lo.pos; omega, lp.b1.mono (by omega), lp.b2.mono (by omega), lq.b1.mono (by omega), lq.b2.mono (by omega)⟩, ?_⟩
                refine ⟨_, rfl, ?_, rfl⟩
                have hz : (List.zipWith pl (ev2 gs) (ev2 (gs.drop 1)))[k]? = some (pl p q) := by
                  rw [List.getElem?_zipWith, q1, q2]
                rw [take_snoc hz, List.map_append]
                rfl
          · rintro acc ms' ⟨rfl, rfl⟩
            walk_at "evs"
            refine rr_cat ⟨_, _, rfl, rfl, ?_, ?_⟩
            · simp only [List.length_map, List.length_take, List.length_zipWith]
              have : (aloneL gs).length ≤ 200 := by
                unfold aloneL
                split
                · rw [List.length_drop]; omega
                · simp
              omega
            · rw [← List.map_append, List.length_map, List.length_map, List.take_of_length_le (by rw [List.length_zipWith]; omega), halve_is]
              have hh := halve_len gs
              refine ⟨(halve gs).length, by omega, halve gs, j + 1, _, _, _, rfl, rfl, rfl, halve_lp gs hg, by rw [halve_sum gs fun g h => (hg g h).lo]; exact hs, ?_, fun z => ?_⟩
              · rw [hh, Nat.pow_succ]
                have : ((gs.length + 1) / 2 - 1) * (2 ^ j * 2) ≤ (gs.length - 1) * 2 ^ j := by
                  have e2 : ((gs.length + 1) / 2 - 1) * (2 ^ j * 2) = (((gs.length + 1) / 2 - 1) * 2) * 2 ^ j := by
                    rw [Nat.mul_comm (2 ^ j) 2, Nat.mul_assoc]
                  rw [e2]
                  exact Nat.mul_le_mul_right _ (by omega)
                omega
              · rw [z] at hh
                simp at hh
                omega
      · walk_at "evs"
        have h1 : gs.length ≤ 1 := by
          rw [List.length_map] at h
          have := of_decide_eq_false h
          omega
        refine ⟨gs, o1, o2, o3, rfl, rfl, ?_⟩
        match gs, h1, hg, hs, hn with
        | [], _, _, _, hn => exact .inl ⟨rfl, hn rfl⟩
        | [g], _, hg, hs, _ =>
          refine .inr ?_
          have hz := sumF_lo fs fun f hf => by have := (hw f hf).lo.pos; omega
          have : g = sumF fs := by
            refine Lo.eq (hg g (by simp)).lo hz.1 ?_
            rw [hz.2, ← hs]
            show _ = val g + 0
            grind
          rw [this]
  · rintro ds' ms' ⟨g, o1, o2, o3, rfl, rfl, hg⟩
    walk_at "evs"
    refine et_tru (e_var rfl ⟨_, .inl (.d _), ?_⟩)
    rcases hg with ⟨rfl, rfl⟩ | rfl
    · refine ⟨nofun, fun _ => ?_⟩
      walk_at "evs"
      exact r
    · refine ⟨fun _ => ?_, nofun⟩
      walk_at "evs"
      exact r

def wtB (x : PyData) : Bool := isFrac x && (match x with
  | .tuple [.int t, .int b] => decide ((t.natAbs : Int) ≤ 1000000000) && decide (b ≤ 1000)
  | _ => false)
def Φ_is_weight : Ph := ph1 fun a ms R => ∃ x, a = .d x ∧ R (.d (.bool (wtB x))) ms
theorem len_is_weight : ∀ as ms R, Φ_is_weight as ms R → as.length = 1 := ph1_len
theorem fracI {x : PyData} (h : isFrac x = true) : ∃ t b : Int, x = .tuple [.int t, .int b] := by
  unfold isFrac at h
  split at h
  · exact ⟨_, _, rfl⟩
  · cases h
theorem rd_is_weight {K : PySem.W.Frag} : ∀ as ms R, Φ_is_weight as ms R → S K (t_is_weight K Φ_is_fraction) (as ++ List.replicate (1 - as.length) .u) ms (fin R) := by
  rintro as ms R ⟨a, rfl, x, rfl, r⟩
  unfold t_is_weight
  walk_at "evs"
  refine ⟨_, rfl, x, rfl, ?_⟩
  unfold wtB at r
  refine ⟨_, rfl, fun h => ?_, fun h => ?_⟩
  · obtain ⟨t, b, rfl⟩ := fracI h
    rw [h, Bool.true_and] at r
    walk_at "evs"
    rw [abs_nat]
    refine ⟨fun h2 => ?_, fun h2 => ?_⟩
    · simp only [h2, Bool.true_and] at r
      walk_at "evs"
      exact r
    · simp only [h2, Bool.false_and] at r
      exact r
  · rw [h, Bool.false_and] at r
    exact r

def rowOf : PyData → Option (List PyData)
  | .list es => some es
  | .tuple es => some es
  | _ => none
theorem row_inv {x : PyData} (h : isRow x = true) : ∃ es, rowOf x = some es ∧ (x = .list es ∨ x = .tuple es) := by
  cases x with
  | list es => exact ⟨es, rfl, .inl rfl⟩
  | tuple es => exact ⟨es, rfl, .inr rfl⟩
  | _ => cases h
theorem row_no {x : PyData} (h : isRow x = false) : rowOf x = none := by
  cases x with
  | list es => cases h
  | tuple es => cases h
  | _ => rfl

def mkT : PyData → PyData → PyData → PyData
  | .int i, .int j, w => .tuple [.int (if j < i then j else i), .int (if j > i then j else i), w]
  | _, _, _ => .none
def tie3 (m : Int) (a b w : PyData) : PyData := if (unlB m a b && wtB w) = true then mkT a b w else .none
/-- the tie that a thing tells, if it tells one -/
def tieOf (m : Int) (x : PyData) : PyData := match rowOf x with
  | some [a, b, w] => tie3 m a b w
  | _ => .none
def Φ_told_tie : Ph := ph2 fun a b ms R => ∃ (m : Int) (x : PyData), a = .d (.int m) ∧ b = .d x ∧ R (.d (tieOf m x)) ms
theorem len_told_tie : ∀ as ms R, Φ_told_tie as ms R → as.length = 2 := ph2_len
theorem unl_inv {m : Int} {a b : PyData} (h : unlB m a b = true) : ∃ i j : Int, a = .int i ∧ b = .int j := by
  unfold unlB at h
  rw [Bool.and_eq_true, Bool.and_eq_true] at h
  obtain ⟨i, rfl⟩ := numI h.1
  obtain ⟨j, rfl⟩ := numI h.2.1
  exact ⟨i, j, rfl, rfl⟩
theorem trip_inv {x : PyData} (h : tripB x = true) : ∃ a b c, rowOf x = some [a, b, c] ∧ (x = .list [a, b, c] ∨ x = .tuple [a, b, c]) := by
  cases x with
  | list es =>
    have h2 : es.length = 3 := of_decide_eq_true h
    match es, h2 with
    | [a, b, c], _ => exact ⟨a, b, c, rfl, .inl rfl⟩
  | tuple es =>
    have h2 : es.length = 3 := of_decide_eq_true h
    match es, h2 with
    | [a, b, c], _ => exact ⟨a, b, c, rfl, .inr rfl⟩
  | _ => cases h
theorem trip_no {m : Int} {x : PyData} (h : tripB x = false) : tieOf m x = .none := by
  have z : ∀ es : List PyData, es.length ≠ 3 → (match some es with
      | some [a, b, w] => tie3 m a b w
      | _ => PyData.none) = .none := fun es he => by
    split
    · rename_i q
      have := Option.some.inj q
      subst this
      exact absurd rfl he
    · rfl
  cases x with
  | list es => exact z es (of_decide_eq_false h)
  | tuple es => exact z es (of_decide_eq_false h)
  | _ => rfl
theorem rd_told_tie {K : PySem.W.Frag} : ∀ as ms R, Φ_told_tie as ms R → S K (t_told_tie K Φ_is_triple Φ_is_weight Φ_are_unlike_points) (as ++ List.replicate (5 - as.length) .u) ms (fin R) := by
  rintro as ms R ⟨a, b, rfl, m, x, rfl, rfl, r⟩
  unfold t_told_tie
  walk_at "evs"
  refine ⟨_, rfl, x, rfl, ?_⟩
  refine ⟨_, rfl, fun h => ?_, fun h => ?_⟩
  · rw [trip_no (by simpa using h)] at r
    walk_at "evs"
    exact r
  obtain ⟨c, d, w, hr, hx⟩ := trip_inv (x := x) (by simpa using h)
  refine s_next ?_
  refine s_seq (s_asgG (js := [2, 3, 4]) (e_var rfl ?_))
  refine eg_rw hx rfl (egs_cons (eg_name (egs_cons (eg_name (egs_cons (eg_name (egs_nil ?_)))))))
  have e : tieOf m x = tie3 m c d w := by
    unfold tieOf
    rw [hr]
  rw [e] at r
  unfold tie3 at r
  walk_at "evs"
  refine ⟨_, _, _, rfl, m, c, d, rfl, rfl, rfl, ?_⟩
  refine ⟨_, rfl, fun h1 => ?_, fun h1 => ?_⟩
  · have h1 : unlB m c d = false := by simpa using h1
    rw [h1, Bool.false_and, if_neg Bool.false_ne_true] at r
    refine ⟨fun _ => ?_, nofun⟩
    walk_at "evs"
    exact r
  · have h1 : unlB m c d = true := by simpa using h1
    obtain ⟨i, j, rfl, rfl⟩ := unl_inv h1
    rw [h1, Bool.true_and] at r
    walk_at "evs"
    refine ⟨_, rfl, w, rfl, ?_⟩
    refine ⟨_, rfl, fun h2 => ?_, fun h2 => ?_⟩
    · have h2 : wtB w = false := by simpa using h2
      rw [h2, if_neg Bool.false_ne_true] at r
      walk_at "evs"
      exact r
    · have h2 : wtB w = true := by simpa using h2
      rw [h2, if_pos rfl] at r
      walk_at "evs"
      exact r

def dupB (es : List PyData) : Bool := (List.zip es (es.drop 1)).any fun p => match p.1, p.2 with
  | .tuple (a :: b :: _), .tuple (c :: d :: _) => PyData.eqv (.tuple [a, b]) (.tuple [c, d])
  | _, _ => false
def isT : PyData → Bool
  | .tuple _ => true
  | _ => false
/-- what made_web tells of ties in a row -/
def webR (m : Int) (es : List PyData) : Bool := (es.map (tieOf m)).all isT && !dupB (sortD (es.map (tieOf m)))
def okW (n x : PyData) : Bool := match n, rowOf x with
  | .int m, some es => (decide (1 ≤ m) && decide (m ≤ 60)) && (decide (es.length ≤ 170) && webR m es)
  | _, _ => false
def Φ_made_web : PhX := phx2 fun a b ms R Y => ∃ n x : PyData, a = .d n ∧ b = .d x ∧ (∀ es, rowOf x = some es → es.length ≤ 10000) ∧ (okW n x = true → ∀ m es, n = .int m → rowOf x = some es → R (.d (.tuple [.int m, .tuple (sortD (es.map (tieOf m)))])) ms) ∧ (okW n x = false → Y ms)
theorem len_made_web : ∀ as ms R Y, Φ_made_web as ms R Y → as.length = 2 := phx2_len
theorem tie_shape {m : Int} {x : PyData} : tieOf m x = .none ∨ ∃ i j t b : Int, tieOf m x = .tuple [.int i, .int j, .tuple [.int t, .int b]] := by
  unfold tieOf
  split
  · rename_i a b w _
    unfold tie3
    by_cases h : (unlB m a b && wtB w) = true
    · rw [if_pos h]
      rw [Bool.and_eq_true] at h
      obtain ⟨i, j, rfl, rfl⟩ := unl_inv h.1
      have hw : isFrac w = true := by
        have := h.2
        unfold wtB at this
        rw [Bool.and_eq_true] at this
        exact this.1
      obtain ⟨t, b, rfl⟩ := fracI hw
      exact .inr ⟨_, _, t, b, rfl⟩
    · rw [if_neg h]
      exact .inl rfl
  · exact .inl rfl
theorem told_alike {m : Int} {es : List PyData} (h : (es.map (tieOf m)).all isT = true) : (∀ e ∈ es.map (tieOf m), Shp 60 e) ∧ PySem.W.AllAlike (es.map (tieOf m)) ∧ PySem.W.Sortable (es.map (tieOf m)) ∧ ∀ e ∈ es.map (tieOf m), ∃ i j t b : Int, e = .tuple [.int i, .int j, .tuple [.int t, .int b]] := by
  have sh : ∀ e ∈ es.map (tieOf m), ∃ i j t b : Int, e = .tuple [.int i, .int j, .tuple [.int t, .int b]] := fun e he => by
    have h1 := List.all_eq_true.mp h e he
    obtain ⟨x, _, rfl⟩ := List.mem_map.mp he
    rcases tie_shape (m := m) (x := x) with z | z
    · rw [z] at h1
      cases h1
    · exact z
  refine ⟨fun e he => ?_, fun d hd d' hd' => ?_, .inl fun d hd => ?_, sh⟩
  · obtain ⟨i, j, t, b, rfl⟩ := sh e he
    have s1 : Shp 3 (.tuple [.int i, .int j, .tuple [.int t, .int b]]) := Shp.tup fun e he => by
      simp only [List.mem_cons, List.not_mem_nil, or_false] at he
      rcases he with rfl | rfl | rfl
      · exact (Shp.int _).mono (by decide)
      · exact (Shp.int _).mono (by decide)
      · exact (Shp.tup (Shp.ints [_, _])).mono (by decide)
    exact s1.mono (by decide)
  · obtain ⟨i, j, t, b, rfl⟩ := sh d hd
    obtain ⟨i', j', t', b', rfl⟩ := sh d' hd'
    simp [PySem.W.alike, PySem.W.alikeAll]
  · obtain ⟨i, j, t, b, rfl⟩ := sh d hd
    exact ⟨_, _, rfl⟩
theorem none_in (es : List PyData) (h : ∀ e ∈ es, e = .none ∨ ∃ xs, e = .tuple xs) : (es.any fun z => PyData.eqv z .none) = !es.all isT := by
  induction es with
  | nil => rfl
  | cons e r ih =>
    rw [List.any_cons, List.all_cons, ih fun x hx => h x (by simp [hx])]
    rcases h e (by simp) with rfl | ⟨xs, rfl⟩
    · simp [PyData.eqv, isT]
    · simp [PyData.eqv, isT]
theorem cut_from1 (es : List PyData) : Hc.cutD es (some 1) none = es.drop 1 := by
  unfold Hc.cutD
  rw [show HT.sIx es.length 0 (some 1) = min 1 es.length from HT.sIx_nat es.length 0 1, HT.sIx_none]
  cases es with
  | nil => rfl
  | cons a r =>
    have : min 1 (a :: r).length = 1 := by simp
    rw [this]
    exact List.take_of_length_le (by simp)
theorem cut2 (a b : PyData) (r : List PyData) : Hc.cutD (a :: b :: r) none (some 2) = [a, b] := by
  unfold Hc.cutD
  rw [HT.sIx_none]
  have : HT.sIx (a :: b :: r).length (a :: b :: r).length (some 2) = 2 := by
    have := HT.sIx_nat (a :: b :: r).length (a :: b :: r).length 2
    rw [show ((2 : Int)) = ((2 : Nat) : Int) from rfl, this]
    simp
  rw [this]
  rfl
theorem rd_made_web {K : PySem.W.Frag} {C_CutError C_NoWeb C_NoSide C_NoWishes C_TooGreat : Addr} : ∀ as ms R Y, Φ_made_web as ms R Y → SX K C_NoWeb (t_made_web K C_CutError C_NoWeb C_NoSide C_NoWishes C_TooGreat Φ_is_whole Φ_is_row Φ_told_tie) (as ++ List.replicate (6 - as.length) .u) ms (fin R) Y := by
  rintro as ms R Y ⟨a, b, rfl, n, x, rfl, rfl, hz, r, y⟩
  unfold t_made_web
  refine sx_seq (sx_if ?_)
  walk_at "evs"
  refine ⟨_, rfl, n, rfl, _, rfl, fun h => ?_, fun h => ?_⟩
  · refine ⟨fun _ => ?_, nofun⟩
    refine sx_raise (y ?_)
    cases n with
    | int _ => cases h
    | _ => rfl
  obtain ⟨m, rfl⟩ := whole_inv (x := n) (by simpa using h)
  have ow : ∀ es, rowOf x = some es → okW (.int m) x = ((decide (1 ≤ m) && decide (m ≤ 60)) && (decide (es.length ≤ 170) && webR m es)) := fun es he => by
    unfold okW
    rw [he]
  have on : (decide (1 ≤ m) && decide (m ≤ 60)) = false → okW (.int m) x = false := fun z => by
    unfold okW
    split
    · rename_i q _
      cases q
      rw [z, Bool.false_and]
    · rfl
  have go : (decide (1 ≤ m) && decide (m ≤ 60)) = true → SX K C_NoWeb (fun E => (tSeq (tIfS (tOr (tNot (L2.tB (tCall (SpD K Φ_is_row) [] E0 (tCons (tVar 1) tNil)))) (tTest (tOp rGtI (tCB (rLenQ K) (tCons (tVar 1) tNil)) (tC (.int 170))))) (tRs C_NoWeb E) tNext)
    (tSeq (tAsg (tLc (iRow K 1) (gName 3) tYes (tCall (SpD K Φ_told_tie) [] E0 (tCons (tVar 0) (tCons (tVar 3) tNil))) [3]) (gName 2))
    (tSeq (tIfS (tTest (tOp (rInD K) (tC .non) (tVar 2))) (tRs C_NoWeb E) tNext)
    (tSeq (tAsg (tCB (rSortV K) (tCons (tVar 2) tNil)) (gName 2))
    (tSeq (tFor (iZip K (tCons (tVar 2) (tCons (tSl (rSlL K) (tVar 2) (tPart (tC (.int 1))) tNoPart) tNil))) (gTup K 2 (gCons (gName 4) (gCons (gName 5) gNil))) (tIfS (tTest (tOp (rEqD K) (tSl (rSlT K) (tVar 4) tNoPart (tPart (tC (.int 2)))) (tSl (rSlT K) (tVar 5) tNoPart (tPart (tC (.int 2)))))) (tRs C_NoWeb E) tNext))
    (tRet (tTup (tCons (tVar 0) (tCons (tCB (rTupQ K) (tCons (tVar 2) tNil)) tNil)))))))))) [.d (.int m), .d x, .u, .u, .u, .u] ms (fin R) Y := fun hm => by
    refine sx_seq (sx_if ?_)
    walk_at "evs"
    refine ⟨_, rfl, x, rfl, _, rfl, fun h => ?_, fun h => ?_⟩
    · refine ⟨fun _ => ?_, nofun⟩
      refine sx_raise (y ?_)
      have h1 := row_no (x := x) (by simpa using h)
      unfold okW
      rw [h1]
    obtain ⟨es, he, hx⟩ := row_inv (x := x) (by simpa using h)
    have hz := hz es he
    have ow := ow es he
    rw [hm, Bool.true_and] at ow
    have sv : Sv ms (.d x) (.list es) ∨ Sv ms (.d x) (.tuple es) := by
      rcases hx with rfl | rfl
      · exact .inl (.d _)
      · exact .inr (.d _)
    walk_at "evs"
    refine rc_len ⟨_, es, rfl, sv, ?_⟩
    walk_at "evs"
    refine ⟨fun h2 => ?_, fun h2 => ?_⟩
    · refine sx_raise (y ?_)
      rw [ow, decide_eq_false (by simp at h2; omega), Bool.false_and]
    have hl : es.length ≤ 170 := by simp at h2; omega
    rw [decide_eq_true hl, Bool.true_and] at ow
    refine sx_of (s_next ?_)
    refine sx_seq (sx_of ?_)
    refine s_asg ?_
    refine e_lcRow (js := [3]) (es := es) rfl hx (by simp) hz (fun k acc ms' => acc = (es.take k).map (tieOf m) ∧ ms' = ms) ⟨rfl, rfl⟩ ?_ ?_
    · rintro k e acc ms' hk ⟨rfl, rfl⟩
      refine eg_name ?_
      walk_at "evs"
      refine ⟨fun _ => ?_, nofun⟩
      walk_at "evs"
      refine ⟨_, _, rfl, m, e, rfl, rfl, ?_⟩
      exact ⟨_, rfl, by rw [take_snoc hk]; simp, rfl⟩
    rintro acc ms' ⟨rfl, rfl⟩
    rw [List.take_length]
    have ni := none_in (es.map (tieOf m)) fun e he => by
      obtain ⟨z, _, rfl⟩ := List.mem_map.mp he
      rcases tie_shape (m := m) (x := z) with q | ⟨i, j, t, b, q⟩
      · exact .inl q
      · exact .inr ⟨_, q⟩
    have shp : ∀ e ∈ es.map (tieOf m), Shp 60 e := fun e he => by
      obtain ⟨z, _, rfl⟩ := List.mem_map.mp he
      rcases tie_shape (m := m) (x := z) with q | ⟨i, j, t, b, q⟩
      · rw [q]
        exact ⟨rfl, by decide⟩
      · rw [q]
        have s1 : Shp 3 (.tuple [.int i, .int j, .tuple [.int t, .int b]]) := Shp.tup fun e he => by
          simp only [List.mem_cons, List.not_mem_nil, or_false] at he
          rcases he with rfl | rfl | rfl
          · exact (Shp.int _).mono (by decide)
          · exact (Shp.int _).mono (by decide)
          · exact (Shp.tup (Shp.ints [_, _])).mono (by decide)
        exact s1.mono (by decide)
    refine sx_seq (sx_if ?_)
    walk_at "evs"
    refine rr_inD ⟨.none, es.map (tieOf m), .d _, .d _, (show Shp 0 PyData.none from ⟨rfl, by decide⟩).ok (by decide), (Shp.lst shp).ok (by decide), ?_⟩
    rw [ni]
    refine ⟨_, rfl, fun h3 => ?_, fun h3 => ?_⟩
    · refine sx_raise (y ?_)
      rw [ow]
      unfold webR
      rw [show (es.map (tieOf m)).all isT = false by simpa using h3, Bool.false_and]
    have hall : (es.map (tieOf m)).all isT = true := by simpa using h3
    obtain ⟨_, al, so, sh⟩ := told_alike hall
    unfold webR at ow
    rw [hall, Bool.true_and] at ow
    refine sx_of (s_next ?_)
    refine sx_seq (sx_of ?_)
    walk_at "evs"
    refine rc_sortD ⟨_, es.map (tieOf m), rfl, .d _, shp, al, so, ?_⟩
    have ssh : ∀ e ∈ sortD (es.map (tieOf m)), ∃ i j t b : Int, e = .tuple [.int i, .int j, .tuple [.int t, .int b]] := fun e he => sh e (List.mem_mergeSort.mp he)
    have rr := fun ok => r ok m es rfl he
    generalize hS : sortD (es.map (tieOf m)) = ss at *
    refine sx_seq ?_
    refine sx_forZ (js := [4, 5]) ?_
    walk_at "evs"
    rw [cut_from1]
    refine ⟨_, _, ss, ss.drop 1, rfl, .d _, .d _, fun k ds' ms2 => ∃ o3 o4 o5 : SD, ds' = [.d (.int m), .d x, .d (.list ss), o3, o4, o5] ∧ ms2 = ms' ∧ ∀ l p, l < k → (List.zip ss (ss.drop 1))[l]? = some p → (match p.1, p.2 with
      | .tuple (a :: b :: _), .tuple (c :: d :: _) => PyData.eqv (.tuple [a, b]) (.tuple [c, d])
      | _, _ => false) = false, ⟨_, _, _, rfl, rfl, fun _ _ h => by omega⟩, ?_, ?_⟩
    · rintro k e f ds' ms2 hk hk2 ⟨o3, o4, o5, rfl, rfl, hb⟩
      have zk : (List.zip ss (ss.drop 1))[k]? = some (e, f) := by rw [List.getElem?_zip_eq_some]; exact ⟨hk, hk2⟩
      obtain ⟨i, j, t, b, rfl⟩ := ssh e (List.mem_of_getElem? hk)
      obtain ⟨i', j', t', b', rfl⟩ := ssh f (List.mem_of_mem_drop (List.mem_of_getElem? hk2))
      refine eg_tup rfl (egs_cons (eg_name (egs_cons (eg_name (egs_nil ?_)))))
      refine sx_if ?_
      walk_at "evs"
      refine e_slT ?_
      walk_at "evs"
      refine ⟨by simp [HT.sIx], ?_⟩
      walk_at "evs"
      refine e_slT ?_
      walk_at "evs"
      refine ⟨by simp [HT.sIx], ?_⟩
      rw [cut2, cut2]
      refine rr_eq ⟨_, _, .d _, .d _, (Shp.tup (Shp.ints [_, _])).ok (by decide), (Shp.tup (Shp.ints [_, _])).ok (by decide), ?_⟩
      refine ⟨_, rfl, fun h => ?_, fun h => ?_⟩
      · refine sx_raise (y ?_)
        rw [ow]
        have : dupB ss = true := List.any_eq_true.mpr ⟨_, List.mem_of_getElem? zk, h⟩
        rw [this]
        rfl
      · refine sx_of (s_next ?_)
        refine ⟨_, _, _, rfl, rfl, fun l p hl hp => ?_⟩
        rcases Nat.lt_succ_iff_lt_or_eq.mp hl with z | z
        · exact hb l p z hp
        · subst z
          rw [zk] at hp
          cases hp
          exact h
    · rintro ds' ms2 ⟨o3, o4, o5, rfl, rfl, hb⟩
      have nd : dupB ss = false := by
        unfold dupB
        rw [List.any_eq_false]
        intro p hp
        obtain ⟨l, hl⟩ := List.mem_iff_getElem?.mp hp
        have l2 := (List.getElem?_eq_some_iff.mp hl).1
        rw [List.length_zip] at l2
        rw [hb l p l2 hl]
        decide
      rw [nd] at ow
      refine sx_of ?_
      walk_at "evs"
      refine rc_tuple ⟨_, ss, rfl, .inl (.d _), ?_⟩
      walk_at "evs"
      exact rr ow
  walk_at "evs"
  refine ⟨fun h2 => ?_, fun h2 => ?_⟩
  · walk_at "evs"
    rintro b' rfl
    walk_at "evs"
    refine ⟨fun h3 => ?_, fun h3 => ?_⟩
    · refine sx_raise (y (on ?_))
      rw [h2, Bool.true_and]
      simpa using h3
    · refine sx_of (s_next ?_)
      exact go (by rw [h2, Bool.true_and]; simpa using h3)
  · refine ⟨_, rfl, fun _ => ?_, nofun⟩
    refine sx_raise (y (on ?_))
    rw [h2, Bool.false_and]

/-- what a list or a tuple holds -/
def rowE : PyData → Option (List PyData)
  | .list es => some es
  | .tuple es => some es
  | _ => none
theorem rowE_or {x : PyData} {es : List PyData} (h : rowE x = some es) : x = .list es ∨ x = .tuple es := by
  cases x <;> first | cases h; exact .inl rfl | (cases h; exact .inr rfl) | cases h
theorem rowE_sv {x : PyData} {es : List PyData} (h : rowE x = some es) (ms : List MD) : Sv ms (.d x) (.list es) ∨ Sv ms (.d x) (.tuple es) := by
  rcases rowE_or h with rfl | rfl
  · exact .inl (.d _)
  · exact .inr (.d _)
theorem rowE_is {x : PyData} {es : List PyData} (h : rowE x = some es) : isRow x = true := by
  rcases rowE_or h with rfl | rfl <;> rfl
theorem rowE_no {x : PyData} (h : rowE x = none) : isRow x = false := by
  cases x <;> first | rfl | cases h
theorem trip_of {x : PyData} (h : tripB x = true) : ∃ a b c, rowE x = some [a, b, c] := by
  have len : ∀ es : List PyData, es.length = 3 → ∃ a b c, es = [a, b, c] := fun es e => by
    match es, e with
    | [a, b, c], _ => exact ⟨a, b, c, rfl⟩
  cases x with
  | list es => obtain ⟨a, b, c, rfl⟩ := len es (of_decide_eq_true h); exact ⟨a, b, c, rfl⟩
  | tuple es => obtain ⟨a, b, c, rfl⟩ := len es (of_decide_eq_true h); exact ⟨a, b, c, rfl⟩
  | _ => cases h
/-- a wish, or not -/
def wishB (m : Int) (x : PyData) : Bool := match rowE x with
  | some [a, b, c] => unlB m a b && numB 2 c
  | _ => false
theorem wish_trip {m : Int} {x : PyData} (h : tripB x = false) : wishB m x = false := by
  unfold wishB
  split
  · next a b c e =>
    rcases rowE_or e with rfl | rfl <;> cases h
  · rfl
def Φ_is_wish : Ph := ph2 fun a b ms R => ∃ (m : Nat) (w x : PyData), a = .d (.tuple [.int m, w]) ∧ b = .d x ∧ R (.d (.bool (wishB m x))) ms
theorem len_is_wish : ∀ as ms R, Φ_is_wish as ms R → as.length = 2 := ph2_len
theorem rd_is_wish {K : PySem.W.Frag} : ∀ as ms R, Φ_is_wish as ms R → S K (t_is_wish K Φ_is_triple Φ_is_number_of Φ_are_unlike_points) (as ++ List.replicate (5 - as.length) .u) ms (fin R) := by
  rintro as ms R ⟨a, b, rfl, m, w, x, rfl, rfl, r⟩
  unfold t_is_wish
  refine s_seq (s_if (et_not (et_B (e_call (ea_cons (e_var rfl (ea_nil ⟨_, rfl, _, rfl, ?_⟩)))))))
  cases ht : tripB x with
  | false =>
    rw [wish_trip ht] at r
    exact ⟨false, rfl, fun _ => s_ret (e_bl r), nofun⟩
  | true =>
    refine ⟨true, rfl, nofun, fun _ => s_next ?_⟩
    obtain ⟨p, q, c, e⟩ := trip_of ht
    have ew : wishB m x = (unlB m p q && numB 2 c) := by unfold wishB; rw [e]
    rw [ew] at r
    refine s_seq (s_asgG (js := [2, 3, 4]) (e_var rfl ?_))
    refine eg_rw (rowE_or e) rfl (egs_cons (eg_name (egs_cons (eg_name (egs_cons (eg_name (egs_nil ?_)))))))
    refine s_ret (e_and (e_call (ea_cons (e_op (e_var rfl (e_int (rr_ix ⟨_, _, _, .inr (.d _), rfl, atI_nat (j := 0) rfl, ?_⟩)))))))
    refine ea_cons (e_var rfl (ea_cons (e_var rfl (ea_nil ⟨_, _, _, rfl, m, _, _, rfl, rfl, rfl, ?_⟩))))
    cases hu : unlB m p q with
    | false =>
      rw [hu] at r
      exact ⟨false, rfl, nofun, fun _ => r⟩
    | true =>
      rw [hu] at r
      refine ⟨true, rfl, fun _ => ?_, nofun⟩
      exact e_call (ea_cons (e_int (ea_cons (e_var rfl (ea_nil ⟨_, _, rfl, 2, _, rfl, rfl, r⟩)))))

/-- wishes, or not -/
def thingB (m : Int) (x : PyData) : Bool := match rowE x with
  | some hs => decide (hs.length ≤ 120) && hs.all (wishB m)
  | none => false
def tupE (x : PyData) : PyData := match rowE x with
  | some es => .tuple es
  | none => x
def Φ_made_wishes : PhX := phx2 fun a b ms R Y => ∃ (m : Nat) (w x : PyData), a = .d (.tuple [.int m, w]) ∧ b = .d x ∧ (∀ hs, rowE x = some hs → thingB m x = true → R (.d (.tuple (hs.map tupE))) ms) ∧ (thingB m x = false → Y ms)
theorem len_made_wishes : ∀ as ms R Y, Φ_made_wishes as ms R Y → as.length = 2 := phx2_len
theorem all_bools {l : List PyData} {p : PyData → Bool} : (l.map fun h => PyData.bool (p h)) = (l.map p).map PyData.bool := by rw [List.map_map]; rfl
theorem rd_made_wishes {K : PySem.W.Frag} {C_CutError C_NoWeb C_NoSide C_NoWishes C_TooGreat : Addr} : ∀ as ms R Y, Φ_made_wishes as ms R Y → SX K C_NoWishes (t_made_wishes K C_CutError C_NoWeb C_NoSide C_NoWishes C_TooGreat Φ_is_row Φ_is_wish) (as ++ List.replicate (3 - as.length) .u) ms (fin R) Y := by
  rintro as ms R Y ⟨a, b, rfl, m, w, x, rfl, rfl, r, y⟩
  unfold t_made_wishes
  refine sx_seq (sx_if ?_)
  refine et_or (et_not (et_B (e_call (ea_cons (e_var rfl (ea_nil ⟨_, rfl, _, rfl, ?_⟩))))))
  cases hx : rowE x with
  | none =>
    rw [rowE_no hx]
    refine ⟨false, rfl, fun _ => ⟨fun _ => sx_raise (y ?_), nofun⟩, nofun⟩
    unfold thingB
    rw [hx]
  | some hs =>
    have et : thingB m x = (decide (hs.length ≤ 120) && hs.all (wishB m)) := by unfold thingB; rw [hx]
    rw [et] at y
    have r := r hs hx
    rw [et] at r
    rw [rowE_is hx]
    refine ⟨true, rfl, nofun, fun _ => ?_⟩
    refine et_test (e_op (e_cb (ea_cons (e_var rfl (ea_nil (rc_len ⟨_, hs, rfl, rowE_sv hx _, e_int (rr_B0 ⟨_, _, rfl, rfl, _, rfl, fun h => ?_, fun h => ?_⟩)⟩))))))
    · have h2 := of_decide_eq_true h
      have h3 : ¬ hs.length ≤ 120 := by omega
      exact sx_raise (y (by rw [decide_eq_false h3]; rfl))
    have h2 := of_decide_eq_false h
    have h3 : hs.length ≤ 120 := by omega
    rw [decide_eq_true h3, Bool.true_and] at r y
    refine sx_of (s_next ?_)
    have len : hs.length ≤ 10000 := by omega
    refine sx_seq (sx_if (et_not (et_B (e_cb (ea_cons (e_lcRow (js := [2]) rfl (rowE_or hx) (by simp) len (fun i acc ms' => acc = ((hs.take i).map (wishB m)).map PyData.bool ∧ ms = ms') ⟨rfl, rfl⟩ ?_ ?_))))))
    · rintro i e acc _ hi ⟨rfl, hms⟩
      subst hms
      refine eg_name (et_yes ⟨fun _ => e_call (ea_cons (e_var rfl (ea_cons (e_var rfl (ea_nil ⟨_, _, rfl, m, w, e, rfl, rfl, _, rfl, ?_, rfl⟩))))), nofun⟩)
      rw [take_snoc hi, List.map_append, List.map_append]
      rfl
    rintro acc _ ⟨rfl, hms⟩
    subst hms
    rw [List.take_length]
    refine ea_nil (rc_all ⟨_, _, rfl, .d _, _, rfl, fun h => ?_, fun h => ?_⟩)
    · have : ¬ (hs.all (wishB m) = true) := fun z => by
        simp [List.all_map] at h
        obtain ⟨x, hx, hf⟩ := h
        have := List.all_eq_true.mp z x hx
        rw [hf] at this
        cases this
      exact sx_raise (y (by cases q : hs.all (wishB m) <;> first | rfl | exact absurd q this))
    have all : hs.all (wishB m) = true := by
      have h4 : (List.map (wishB m) hs).all id = true := by
        cases q : (List.map (wishB m) hs).all id with
        | true => rfl
        | false => rw [q] at h; cases h
      rw [List.all_map] at h4
      exact h4
    have r := r all
    refine sx_of (s_next ?_)
    refine sx_of (s_ret (e_cb (ea_cons (e_lcRow (js := [2]) rfl (rowE_or hx) (by simp) len (fun i acc ms' => acc = (hs.map tupE).take i ∧ ms = ms') ⟨rfl, rfl⟩ ?_ ?_))))
    · rintro i e acc _ hi ⟨rfl, hms⟩
      subst hms
      have we : wishB m e = true := List.all_eq_true.mp all e (List.mem_of_getElem? hi)
      obtain ⟨es, ee⟩ : ∃ es, rowE e = some es := by
        unfold wishB at we
        cases q : rowE e with
        | none => rw [q] at we; cases we
        | some es => exact ⟨es, rfl⟩
      have ej' : (hs.map tupE)[i]? = some (.tuple es) := by
        rw [List.getElem?_map, hi]
        show some (tupE e) = _
        unfold tupE
        rw [ee]
      refine eg_name (et_yes ⟨fun _ => e_cb (ea_cons (e_var rfl (ea_nil (rc_tuple ⟨_, _, rfl, rowE_sv ee _, _, rfl, ?_, rfl⟩)))), nofun⟩)
      rw [take_snoc ej']
    rintro acc _ ⟨rfl, hms⟩
    subst hms
    have e : (hs.map tupE).take hs.length = hs.map tupE := by rw [← List.length_map (f := tupE), List.take_length]
    rw [e]
    exact ea_nil (rc_tuple ⟨_, _, rfl, .inl (.d _), r⟩)

/-- a join: two points, 0 or 1 -/
abbrev Jn := Nat × Nat × Nat
abbrev encJ (j : Jn) : PyData := .tuple [.int j.1, .int j.2.1, .int j.2.2]
structure JOk (m : Nat) (js : List Jn) : Prop where
  m60 : m ≤ 60
  len : js.length ≤ 200
  all : ∀ j ∈ js, j.1 < m ∧ j.2.1 < m ∧ j.1 ≠ j.2.1 ∧ j.2.2 < 2
/-- what stands at the point p of one join, numbered k -/
def atP (p k : Nat) (j : Jn) : List Jn := if j.1 = p then [(k, j.2.1, j.2.2)] else if j.2.1 = p then [(k, j.1, j.2.2)] else []
def nbr (js : List Jn) (p : Nat) : List Jn := (List.range js.length).flatMap fun k => match js[k]? with | some j => atP p k j | none => []
def nearJ (js : List Jn) (m : Nat) : List (List PyData) := (List.range m).map fun p => (nbr js p).map encJ
def Φ_joins_at : Ph := ph2 fun a b ms R => ∃ (m : Nat) (js : List Jn), a = .d (.int m) ∧ b = .d (.tuple (js.map encJ)) ∧ JOk m js ∧ R (.d (.list ((nearJ js m).map .list))) ms
theorem len_joins_at : ∀ as ms R, Φ_joins_at as ms R → as.length = 2 := ph2_len
theorem nearJ_get (js : List Jn) {m p : Nat} (h : p < m) : (nearJ js m)[p]? = some ((nbr js p).map encJ) := by
  unfold nearJ
  rw [List.getElem?_map, List.getElem?_range h]
  rfl
theorem nbr_snoc (js : List Jn) (j : Jn) (p : Nat) : nbr (js ++ [j]) p = nbr js p ++ atP p js.length j := by
  unfold nbr
  rw [List.length_append, List.length_singleton, List.range_succ, List.flatMap_append]
  congr 1
  · rw [List.flatMap_def, List.flatMap_def]
    congr 1
    refine List.map_congr_left fun k hk => ?_
    rw [List.getElem?_append_left (List.mem_range.mp hk)]
  · simp
theorem nbr_mem {js : List Jn} {p k o c : Nat} (h : (k, o, c) ∈ nbr js p) : ∃ j, js[k]? = some j ∧ j.2.2 = c ∧ ((j.1 = p ∧ j.2.1 = o) ∨ (j.2.1 = p ∧ j.1 = o)) := by
  unfold nbr at h
  obtain ⟨i, _, hi⟩ := List.mem_flatMap.mp h
  cases q : js[i]? with
  | none => rw [q] at hi; cases hi
  | some j =>
    rw [q] at hi
    have hi : (k, o, c) ∈ atP p i j := hi
    unfold atP at hi
    split at hi
    · rename_i h1
      simp at hi
      obtain ⟨rfl, rfl, rfl⟩ := hi
      exact ⟨j, q, rfl, .inl ⟨h1, rfl⟩⟩
    · split at hi
      · rename_i h1
        simp at hi
        obtain ⟨rfl, rfl, rfl⟩ := hi
        exact ⟨j, q, rfl, .inr ⟨h1, rfl⟩⟩
      · cases hi
theorem nbr_of {js : List Jn} {k : Nat} {j : Jn} (h : js[k]? = some j) (hne : j.1 ≠ j.2.1) : (k, j.2.1, j.2.2) ∈ nbr js j.1 ∧ (k, j.1, j.2.2) ∈ nbr js j.2.1 := by
  have hk := (List.getElem?_eq_some_iff.mp h).1
  unfold nbr
  refine ⟨List.mem_flatMap.mpr ⟨k, List.mem_range.mpr hk, ?_⟩, List.mem_flatMap.mpr ⟨k, List.mem_range.mpr hk, ?_⟩⟩
  · rw [h]
    simp [atP]
  · rw [h]
    simp [atP, hne]
theorem nbr_len (js : List Jn) (p : Nat) : (nbr js p).length ≤ js.length := by
  unfold nbr
  rw [List.flatMap_def, List.length_flatten]
  have : ∀ n, ((List.map List.length (List.map (fun k => match js[k]? with | some j => atP p k j | none => []) (List.range n)))).sum ≤ n := by
    intro n
    induction n with
    | zero => simp
    | succ n ih =>
      rw [List.range_succ, List.map_append, List.map_append, List.sum_append]
      have : (match js[n]? with | some j => atP p n j | none => []).length ≤ 1 := by
        split
        · unfold atP
          split
          · simp
          · split <;> simp
        · simp
      simp only [List.map_cons, List.map_nil, List.sum_cons, List.sum_nil]
      omega
  exact this js.length
theorem nearJ_snoc (js : List Jn) (j : Jn) {m : Nat} (h1 : j.1 < m) (h2 : j.2.1 < m) (hne : j.1 ≠ j.2.1) :
    nearJ (js ++ [j]) m = ((nearJ js m).set j.1 ((nbr js j.1).map encJ ++ [encJ (js.length, j.2.1, j.2.2)])).set j.2.1 ((nbr js j.2.1).map encJ ++ [encJ (js.length, j.1, j.2.2)]) := by
  apply List.ext_getElem?
  intro p
  have hl : (nearJ js m).length = m := by simp [nearJ]
  by_cases hp : p < m
  · rw [nearJ_get _ hp, nbr_snoc]
    by_cases e2 : p = j.2.1
    · subst e2
      rw [List.getElem?_set_self (by rw [List.length_set, hl]; exact h2)]
      unfold atP
      rw [if_neg hne, if_pos rfl, List.map_append]
      rfl
    · rw [List.getElem?_set_ne (Ne.symm e2)]
      by_cases e1 : p = j.1
      · subst e1
        rw [List.getElem?_set_self (by omega)]
        unfold atP
        rw [if_pos rfl, List.map_append]
        rfl
      · rw [List.getElem?_set_ne (Ne.symm e1), nearJ_get _ hp]
        unfold atP
        rw [if_neg (Ne.symm e1), if_neg (Ne.symm e2), List.append_nil]
  · rw [List.getElem?_eq_none (by simp [nearJ]; omega), List.getElem?_eq_none (by simp [nearJ]; omega)]
theorem rowsJ_set (n : Nat) (ms : List MD) (ess : List (List PyData)) (hn : ms.length = n) {p : Nat} (hp : p < ess.length) (x : List PyData) : (ms ++ rowsM n ess).set (n + p) (.l x) = ms ++ rowsM n (ess.set p x) := by
  subst hn
  rw [List.set_append_right _ _ (by omega)]
  unfold rowsM
  have : ms.length + p - ms.length = p := by omega
  rw [this, List.set_append_left _ _ (by simp; exact hp), List.map_set, List.length_set]
theorem rd_joins_at {K : PySem.W.Frag} : ∀ as ms R, Φ_joins_at as ms R → S K (t_joins_at K) (as ++ List.replicate (8 - as.length) .u) ms (fin R) := by
  rintro as ms R ⟨a, b, rfl, m, js, rfl, rfl, hw, r⟩
  have hl := hw.len
  have hm60 := hw.m60
  unfold t_joins_at
  refine s_newLL ?_
  walk_at "evs"
  refine ⟨by omega, ?_⟩
  refine s_seq (s_forET (js := [4, 5, 6, 7]) ?_)
  refine ea_cons (e_var rfl (ea_nil ⟨_, rfl, ?_⟩))
  have h0 : List.replicate m ([] : List PyData) = nearJ [] m := by
    apply List.ext_getElem?
    intro p
    by_cases hp : p < m
    · rw [nearJ_get _ hp, List.getElem?_replicate, if_pos hp]
      rfl
    · rw [List.getElem?_eq_none (by simp; omega), List.getElem?_eq_none (by simp [nearJ]; omega)]
  have nl : ∀ us, (nearJ us m).length = m := fun us => by simp [nearJ]
  refine ⟨fun k ds' ms' => ∃ o2 o3 o4 o5 o6 : SD, ds' = [.d (.int m), .d (.tuple (js.map encJ)), .m (ms.length + m), o2, o3, o4, o5, o6] ∧ ms' = ms ++ rowsM ms.length (nearJ (js.take k) m), ⟨.u, .u, .u, .u, .u, rfl, by rw [h0]; rfl⟩, ?_, ?_⟩
  · rintro k e ds' ms' he ⟨o2, o3, o4, o5, o6, rfl, rfl⟩
    rw [List.getElem?_map] at he
    cases q : js[k]? with
    | none => rw [q] at he; cases he
    | some j =>
      rw [q] at he
      have e1 := (Option.some.inj he).symm
      subst e1
      obtain ⟨t1, t2, tn, t3⟩ := hw.all j (List.mem_of_getElem? q)
      have hk := (List.getElem?_eq_some_iff.mp q).1
      have kl : (js.take k).length = k := by rw [List.length_take]; omega
      refine eg_tup rfl (egs_cons (eg_name (egs_cons (eg_tup rfl (egs_cons (eg_name (egs_cons (eg_name (egs_cons (eg_name (egs_nil (egs_nil ?_))))))))))))
      have top : ∀ ess : List (List PyData), ess.length = m → (ms ++ rowsM ms.length ess)[ms.length + m]? = some (.r (List.range' ms.length m)) := fun ess e => by
        have := rows_top ms.length ms ess
        rw [e] at this
        exact this
      have rg : ∀ p, p < m → (List.range' ms.length m)[p]? = some (ms.length + p) := fun p hp => by
        rw [List.getElem?_range' hp]
        simp
      have c1 := nbr_len (js.take k) j.1
      have c2 := nbr_len (js.take k) j.2.1
      have g1 := nearJ_get (js.take k) t1
      have g2 := nearJ_get (js.take k) t2
      refine s_seq (s_drop (e_append (e_op (e_varm rfl (e_var rfl (rr_ixR ⟨ms.length + m, j.1, ms.length + j.1, _, rfl, rfl, top _ (nl _), rg _ t1, ⟨_, rows_at _ _ _ g1⟩, _, rfl, ?_⟩))))))
      refine e_tup (ea_cons (e_var rfl (ea_cons (e_var rfl (ea_cons (e_var rfl (ea_nil ⟨_, (rfl : _ = List.map SD.d [_, _, _]), Nat.le_of_ble_eq_true rfl, ?_⟩)))))))
      refine ⟨_, _, rfl, rows_at _ _ _ g1, by rw [List.length_map]; omega, ?_⟩
      rw [rowsJ_set _ _ _ rfl (by rw [nl]; exact t1)]
      have g3 : ((nearJ (js.take k) m).set j.1 ((nbr (js.take k) j.1).map encJ ++ [PyData.tuple [.int k, .int j.2.1, .int j.2.2]]))[j.2.1]? = some ((nbr (js.take k) j.2.1).map encJ) := by
        rw [List.getElem?_set_ne tn]
        exact g2
      have l3 : ((nearJ (js.take k) m).set j.1 ((nbr (js.take k) j.1).map encJ ++ [PyData.tuple [.int k, .int j.2.1, .int j.2.2]])).length = m := by rw [List.length_set, nl]
      refine s_drop (e_append (e_op (e_varm rfl (e_var rfl (rr_ixR ⟨ms.length + m, j.2.1, ms.length + j.2.1, _, rfl, rfl, top _ l3, rg _ t2, ⟨_, rows_at _ _ _ g3⟩, _, rfl, ?_⟩)))))
      refine e_tup (ea_cons (e_var rfl (ea_cons (e_var rfl (ea_cons (e_var rfl (ea_nil ⟨_, (rfl : _ = List.map SD.d [_, _, _]), Nat.le_of_ble_eq_true rfl, ?_⟩)))))))
      refine ⟨_, _, rfl, rows_at _ _ _ g3, by rw [List.length_map]; omega, ?_⟩
      rw [rowsJ_set _ _ _ rfl (by rw [l3]; exact t2)]
      refine ⟨_, _, _, _, _, rfl, ?_⟩
      rw [take_snoc q, nearJ_snoc _ _ t1 t2 tn, kl]
  · rintro ds' ms' ⟨o2, o3, o4, o5, o6, rfl, rfl⟩
    walk_at "evs"
    have e : js.take (js.map encJ).length = js := by
      rw [List.take_of_length_le]
      simp
    rw [e]
    refine ⟨ms, _, rfl, rfl, nl _, ?_⟩
    show R (if ms.length + m < ms.length then _ else if ms.length + m = ms.length + (nearJ js m).length then _ else _) ms
    rw [if_neg (by omega), if_pos (by rw [nl])]
    exact r

/-- what the dict has for a point: its mark, the way to it -/
abbrev Ent := Nat × Nat × List Nat
def encE (e : Ent) : Key × PyData := (.inl (e.1 : Int), .tuple [.int e.2.1, .tuple (e.2.2.map fun (k : Nat) => .int k)])
def eF (js : List Jn) (x k : Nat) : Nat := match js[k]? with | some j => (if x = j.1 then 1 else 0) + (if x = j.2.1 then 1 else 0) | none => 0
def aF (js : List Jn) (k : Nat) : Nat := match js[k]? with | some j => j.2.2 | none => 0
def endN (js : List Jn) (w : List Nat) (x : Nat) : Nat := (w.map (eF js x)).sum
def apN (js : List Jn) (w : List Nat) : Nat := (w.map (aF js)).sum
/-- a join whose points have marks that fit -/
def Fits (js : List Jn) (es : List Ent) (k : Nat) : Prop := ∃ j c1 w1 c2 w2, js[k]? = some j ∧ (j.1, c1, w1) ∈ es ∧ (j.2.1, c2, w2) ∈ es ∧ (c1 + c2) % 2 = j.2.2
structure EOk (js : List Jn) (f : Nat) (es : List Ent) (e : Ent) : Prop where
  bit : e.2.1 < 2
  ap : apN js e.2.2 % 2 = e.2.1
  ends : ∀ x, endN js e.2.2 x % 2 = ((if x = f then 1 else 0) + (if x = e.1 then 1 else 0)) % 2
  nd : e.2.2.Nodup
  fit : ∀ k ∈ e.2.2, Fits js es k
  side : ∀ s : Nat → Nat, (∀ (k : Nat) (j : Jn), js[k]? = some j → (s j.1 + s j.2.1) % 2 = j.2.2) → (s f + s e.1) % 2 = e.2.1
  reach : ∀ C : Nat → Prop, (∀ p k o a, (k, o, a) ∈ nbr js p → C p → C o) → C f → C e.1
structure GOk (m : Nat) (js : List Jn) (f : Nat) (es : List Ent) : Prop where
  keys : (es.map (·.1)).Nodup
  lt : ∀ e ∈ es, e.1 < m
  fst : (f, 0, []) ∈ es
  all : ∀ e ∈ es, EOk js f es e
def Closed (js : List Jn) (es : List Ent) (p : Nat) : Prop := ∀ k o c, (k, o, c) ∈ nbr js p → ∃ e ∈ es, e.1 = o
def Φ_group_from : Ph := ph2 fun a b ms R => ∃ (m : Nat) (js : List Jn) (f : Nat), a = .d (.list ((nearJ js m).map .list)) ∧ b = .d (.int f) ∧ JOk m js ∧ f < m ∧
  ∀ es : List Ent, GOk m js f es → (∀ e ∈ es, Closed js es e.1) → R (.g (kD (es.map encE))) ms
theorem len_group_from : ∀ as ms R, Φ_group_from as ms R → as.length = 2 := ph2_len
theorem valE_none {es : List Ent} {p : Nat} (h : ∀ e ∈ es, e.1 ≠ p) : valD (es.map encE) (.inl (p : Int)) = none := by
  induction es with
  | nil => rfl
  | cons e r ih =>
    have h1 : ¬ ((encE e).1 = (.inl (p : Int) : Key)) := fun z => by
      have z' : (Sum.inl (e.1 : Int) : Key) = .inl (p : Int) := z
      injection z' with z'
      exact h e (by simp) (by omega)
    have := ih fun e he => h e (List.mem_cons_of_mem _ he)
    simp only [valD, List.map_cons, List.find?_cons, h1, decide_false] at this ⊢
    exact this
theorem valE_some {es : List Ent} {e : Ent} (h : e ∈ es) (nd : (es.map (·.1)).Nodup) : valD (es.map encE) (.inl (e.1 : Int)) = some (.tuple [.int e.2.1, .tuple (e.2.2.map fun (k : Nat) => .int k)]) := by
  induction es with
  | nil => cases h
  | cons a r ih =>
    rw [List.map_cons, List.nodup_cons] at nd
    by_cases z : a.1 = e.1
    · have : a = e := by
        rcases List.mem_cons.mp h with y | y
        · exact y.symm
        · exact absurd (List.mem_map.mpr ⟨e, y, z.symm⟩) nd.1
      subst this
      simp [valD, encE]
    · have h1 : ¬ ((encE a).1 = (.inl (e.1 : Int) : Key)) := fun y => by
        have y' : (Sum.inl (a.1 : Int) : Key) = .inl (e.1 : Int) := y
        injection y' with y'
        exact z (by omega)
      have h2 : e ∈ r := by
        rcases List.mem_cons.mp h with y | y
        · exact absurd (by rw [y]) z
        · exact y
      have := ih h2 nd.2
      simp only [valD, List.map_cons, List.find?_cons, h1, decide_false] at this ⊢
      exact this
theorem putE {es : List Ent} {p : Nat} (h : ∀ e ∈ es, e.1 ≠ p) (d : PyData) : putD (es.map encE) (.inl (p : Int)) d = es.map encE ++ [(.inl (p : Int), d)] := by
  unfold putD
  rw [if_neg]
  intro z
  obtain ⟨kv, hm, hk⟩ := List.any_eq_true.mp z
  obtain ⟨e, he, rfl⟩ := List.mem_map.mp hm
  have z' : (Sum.inl (e.1 : Int) : Key) = .inl (p : Int) := of_decide_eq_true hk
  injection z' with z'
  exact h e he (by omega)
theorem nd_len : ∀ (m : Nat) (l : List Nat), l.Nodup → (∀ x ∈ l, x < m) → l.length ≤ m
  | 0, l, _, h => by
    cases l with
    | nil => simp
    | cons a r => exact absurd (h a (by simp)) (by omega)
  | m + 1, l, nd, h => by
    have := nd_len m (l.erase m) (nd.erase m) (fun x hx => by
      have h1 := h x (List.mem_of_mem_erase hx)
      have h2 : x ≠ m := fun z => by subst z; exact absurd hx (by simp [nd.mem_erase_iff])
      omega)
    by_cases hm : m ∈ l
    · rw [List.length_erase_of_mem hm] at this
      omega
    · rw [List.erase_of_not_mem hm] at this
      omega
theorem xor2 {a b : Nat} (ha : a < 2) (hb : b < 2) : Builtin.bitXor (a : Int) (b : Int) = (((a + b) % 2 : Nat) : Int) := by
  have h1 : a = 0 ∨ a = 1 := by omega
  have h2 : b = 0 ∨ b = 1 := by omega
  rcases h1 with rfl | rfl <;> rcases h2 with rfl | rfl <;> decide
theorem Fits.mono {js : List Jn} {es es' : List Ent} {k : Nat} (h : ∀ e ∈ es, e ∈ es') (f : Fits js es k) : Fits js es' k := by
  obtain ⟨j, c1, w1, c2, w2, h1, h2, h3, h4⟩ := f
  exact ⟨j, c1, w1, c2, w2, h1, h _ h2, h _ h3, h4⟩
theorem EOk.mono {js : List Jn} {f : Nat} {es es' : List Ent} {e : Ent} (h : ∀ e ∈ es, e ∈ es') (k : EOk js f es e) : EOk js f es' e := ⟨k.bit, k.ap, k.ends, k.nd, fun i hi => (k.fit i hi).mono h, k.side, k.reach⟩
/-- one point more, over a join from a point that is there -/
theorem GOk.more {m : Nat} {js : List Jn} {f : Nat} {es : List Ent} (g : GOk m js f es) (hw : JOk m js) {p c : Nat} {w : List Nat} {k o a : Nat} (hp : (p, c, w) ∈ es) (hn : (k, o, a) ∈ nbr js p) (ho : ∀ e ∈ es, e.1 ≠ o) : GOk m js f (es ++ [(o, (c + a) % 2, w ++ [k])]) := by
  obtain ⟨j, hj, ha, hends⟩ := nbr_mem hn
  obtain ⟨t1, t2, tn, t3⟩ := hw.all j (List.mem_of_getElem? hj)
  have ep := g.all _ hp
  have sub : ∀ e ∈ es, e ∈ es ++ [(o, (c + a) % 2, w ++ [k])] := fun e he => List.mem_append_left _ he
  refine ⟨?_, fun e he => ?_, sub _ g.fst, fun e he => ?_⟩
  · rw [List.map_append]
    refine List.nodup_append.mpr ⟨g.keys, by simp, fun x hx y hy z => ?_⟩
    obtain ⟨e, he, rfl⟩ := List.mem_map.mp hx
    simp at hy
    exact ho e he (z.trans hy)
  · rcases List.mem_append.mp he with z | z
    · exact g.lt e z
    · have : e = (o, (c + a) % 2, w ++ [k]) := by simpa using z
      subst this
      rcases hends with ⟨_, h2⟩ | ⟨_, h2⟩ <;> (show o < m; omega)
  · rcases List.mem_append.mp he with z | z
    · exact (g.all e z).mono sub
    · have : e = (o, (c + a) % 2, w ++ [k]) := by simpa using z
      subst this
      have hop : o ≠ p := fun z => ho _ hp z.symm
      refine ⟨Nat.mod_lt _ (by decide), ?_, fun x => ?_, ?_, fun i hi => ?_, fun s hs => ?_, fun C hC h0 => hC p k o a hn (ep.reach C hC h0)⟩
      · show apN js (w ++ [k]) % 2 = (c + a) % 2
        have e1 : apN js (w ++ [k]) = apN js w + a := by simp [apN, aF, hj, ha]
        have e2 : apN js w % 2 = c := ep.ap
        rw [e1]
        omega
      · show endN js (w ++ [k]) x % 2 = ((if x = f then 1 else 0) + (if x = o then 1 else 0)) % 2
        have e1 : endN js (w ++ [k]) x = endN js w x + ((if x = j.1 then 1 else 0) + (if x = j.2.1 then 1 else 0)) := by simp [endN, eF, hj]
        have e2 : endN js w x % 2 = ((if x = f then 1 else 0) + (if x = p then 1 else 0)) % 2 := ep.ends x
        rw [e1]
        rcases hends with ⟨h1, h2⟩ | ⟨h1, h2⟩
        · rw [h1, h2]
          by_cases x1 : x = p
          · subst x1
            simp only [if_true, if_neg hop, if_neg (Ne.symm hop)] at e2 ⊢
            omega
          · simp only [if_neg x1, if_neg (Ne.symm x1)] at e2 ⊢
            by_cases x2 : x = o
            · subst x2; simp only [if_true] at e2 ⊢; omega
            · simp only [if_neg x2, if_neg (Ne.symm x2)] at e2 ⊢; omega
        · rw [h1, h2]
          by_cases x1 : x = p
          · subst x1
            simp only [if_true, if_neg hop, if_neg (Ne.symm hop)] at e2 ⊢
            omega
          · simp only [if_neg x1, if_neg (Ne.symm x1)] at e2 ⊢
            by_cases x2 : x = o
            · subst x2; simp only [if_true] at e2 ⊢; omega
            · simp only [if_neg x2, if_neg (Ne.symm x2)] at e2 ⊢; omega
      · show (w ++ [k]).Nodup
        refine List.nodup_append.mpr ⟨ep.nd, by simp, fun x hx y hy z => ?_⟩
        have hk : x = k := by simp at hy; exact z.trans hy
        subst hk
        obtain ⟨j2, c1, w1, c2, w2, f1, f2, f3, _⟩ := ep.fit x hx
        rw [hj] at f1
        cases f1
        rcases hends with ⟨_, h2⟩ | ⟨_, h2⟩
        · exact ho _ f3 h2
        · exact ho _ f2 h2
      · have hi : i ∈ w ++ [k] := hi
        rcases List.mem_append.mp hi with z | z
        · exact (ep.fit i z).mono sub
        · have : i = k := by simpa using z
          subst this
          have hb := ep.bit
          have hb : c < 2 := hb
          have new : (o, (c + a) % 2, w ++ [i]) ∈ es ++ [(o, (c + a) % 2, w ++ [i])] := List.mem_append_right _ (by simp)
          rcases hends with ⟨h1, h2⟩ | ⟨h1, h2⟩
          · exact ⟨j, c, w, (c + a) % 2, w ++ [i], hj, by rw [h1]; exact sub _ hp, by rw [h2]; exact new, by omega⟩
          · exact ⟨j, (c + a) % 2, w ++ [i], c, w, hj, by rw [h2]; exact new, by rw [h1]; exact sub _ hp, by omega⟩
      · show (s f + s o) % 2 = (c + a) % 2
        have e1 : (s f + s p) % 2 = c := ep.side s hs
        have e2 := hs k j hj
        rcases hends with ⟨h1, h2⟩ | ⟨h1, h2⟩
        · rw [h1, h2] at e2; omega
        · rw [h1, h2] at e2; omega
theorem rd_group_from {K : PySem.W.Frag} : ∀ as ms R, Φ_group_from as ms R → S K (t_group_from K) (as ++ List.replicate (10 - as.length) .u) ms (fin R) := by
  rintro as ms R ⟨a, b, rfl, m, js, f, rfl, rfl, hw, hf, r⟩
  have hm60 := hw.m60
  unfold t_group_from
  refine s_newD (e_disp1 (e_var rfl ⟨.inl (f : Int), rfl, ?_⟩))
  refine e_tup (ea_cons (e_int (ea_cons (e_tup (ea_nil ⟨[], rfl, Nat.zero_le _, ?_⟩)))))
  refine ea_nil ⟨[_, _], rfl, Nat.le_of_ble_eq_true rfl, ?_⟩
  refine ⟨_, rfl, _, rfl, ?_⟩
  refine s_new (e_lst (ea_cons (e_var rfl (ea_nil ⟨[_], rfl, Nat.le_of_ble_eq_true rfl, _, rfl, ?_⟩))))
  have hn : (ms ++ [MD.k [(keyD (.inl (f : Int)), PyData.tuple [.int 0, .tuple []])]]).length = ms.length + 1 := by simp
  rw [hn]
  have g0 : GOk m js f [(f, 0, [])] := ⟨by simp, by simpa using hf, by simp, fun e he => by
    have : e = (f, 0, []) := by simpa using he
    subst this
    refine ⟨Nat.zero_lt_succ _, rfl, fun x => ?_, List.nodup_nil, (fun k hk => by cases hk), fun s hs => ?_, fun C _ h0 => h0⟩
    · show 0 % 2 = ((if x = f then 1 else 0) + (if x = f then 1 else 0)) % 2
      split <;> rfl
    · show (s f + s f) % 2 = 0
      omega⟩
  have idx2 : ∀ (x y : MD), (ms ++ [x] ++ [y])[ms.length]? = some x := fun x y => by simp
  have idx3 : ∀ (x y : MD), (ms ++ [x] ++ [y])[ms.length + 1]? = some y := fun x y => by
    rw [List.getElem?_append_right (by simp)]
    simp
  have set2 : ∀ (x y z : MD), (ms ++ [x] ++ [y]).set ms.length z = ms ++ [z] ++ [y] := fun x y z => by
    rw [List.append_assoc, List.set_append_right _ _ (Nat.le_refl _), Nat.sub_self]
    simp
  have set3 : ∀ (x y z : MD), (ms ++ [x] ++ [y]).set (ms.length + 1) z = ms ++ [x] ++ [z] := fun x y z => by
    rw [List.set_append_right _ _ (by simp)]
    simp
  have shape : ∀ (es : List Ent) (wt : List Nat), GOk m js f es → es.length ≤ m := fun es wt g => by
    have := nd_len m (es.map (·.1)) g.keys (fun x hx => by
      obtain ⟨e, he, rfl⟩ := List.mem_map.mp hx
      exact g.lt e he)
    simpa using this
  refine s_seq (s_while (fun n ds' ms' => ∃ (es : List Ent) (wt : List Nat) (o4 o5 o6 o7 o8 o9 : SD), GOk m js f es ∧ (∀ p ∈ wt, ∃ e ∈ es, e.1 = p) ∧ (∀ e ∈ es, e.1 ∈ wt ∨ Closed js es e.1) ∧ n = wt.length + 2 * (m - es.length) ∧ wt.length ≤ es.length ∧
      ds' = [.d (.list ((nearJ js m).map .list)), .d (.int f), .q ms.length, .m (ms.length + 1), o4, o5, o6, o7, o8, o9] ∧ ms' = ms ++ [.k (kD (es.map encE))] ++ [.l (wt.map fun (p : Nat) => .int p)]) (1 + 2 * (m - 1))
    ⟨[(f, 0, [])], [f], .u, .u, .u, .u, .u, .u, g0, (by simp), (by simp), rfl, Nat.le_refl _, rfl, rfl⟩ ?_)
  rintro n ds' ms' ⟨es, wt, o4, o5, o6, o7, o8, o9, g, hwt, hcl, en, hle, rfl, rfl⟩
  refine et_tru (e_varm rfl ⟨_, .inl (.m (idx3 _ _)), fun hb => ?_, fun hb => ?_⟩)
  · cases wt with
    | nil => simp at hb
    | cons p wt =>
      obtain ⟨e, he, ep⟩ := hwt p (by simp)
      obtain ⟨p', c, w⟩ := e
      have ep : p' = p := ep
      subst ep
      have hpm := g.lt _ he
      have hpm : p' < m := hpm
      have hc : c < 2 := (g.all _ he).bit
      have hle2 : wt.length + 1 ≤ es.length := by simpa using hle
      refine s_seq (s_asg (e_popAt0 (e_varm rfl ⟨_, _, _, rfl, idx3 _ _, ?_⟩)))
      rw [set3]
      refine s_seq (s_asgG (js := [5, 6]) (e_dget (e_varq rfl (e_var rfl ⟨_, .inl (p' : Int), _, .q (idx2 _ _), rfl, valE_some he g.keys, ?_⟩))))
      refine eg_tup rfl (egs_cons (eg_name (egs_cons (eg_name (egs_nil ?_)))))
      refine s_forL (js := [7, 8, 9]) (e_op (e_var rfl (e_var rfl (rr_ix ⟨_, _, .list ((nbr js p').map encJ), .inl (.d _), rfl, atI_nat (by rw [List.getElem?_map, nearJ_get js hpm]; rfl), ?_⟩))))
      refine ⟨_, .d _, fun i ds2 ms2 => ∃ (es2 : List Ent) (wt2 : List Nat) (o7 o8 o9 : SD), GOk m js f es2 ∧ (∀ e ∈ es, e ∈ es2) ∧ (∀ q ∈ wt2, ∃ e ∈ es2, e.1 = q) ∧ (∀ q ∈ wt, q ∈ wt2) ∧ (∀ e ∈ es2, e ∈ es ∨ e.1 ∈ wt2) ∧
          (∀ (k : Nat) (x : Jn), k < i → (nbr js p')[k]? = some x → ∃ e ∈ es2, e.1 = x.2.1) ∧ es.length ≤ es2.length ∧ wt2.length + es.length = wt.length + es2.length ∧
          ds2 = [.d (.list ((nearJ js m).map .list)), .d (.int f), .q ms.length, .m (ms.length + 1), .d (.int p'), .d (.int c), .d (.tuple (w.map fun (k : Nat) => .int k)), o7, o8, o9] ∧ ms2 = ms ++ [.k (kD (es2.map encE))] ++ [.l (wt2.map fun (p : Nat) => .int p)],
        ⟨es, wt, _, _, _, g, (fun e he => he), (fun q hq => hwt q (List.mem_cons_of_mem _ hq)), (fun q hq => hq), (fun e he => .inl he), (fun k x hk => by omega), Nat.le_refl _, rfl, rfl, rfl⟩, ?_, ?_⟩
      · rintro i e2 ds2 ms2 hi ⟨es2, wt2, o7, o8, o9, g2, sub, hwt2, wsub, hnew, hdone, hel, hln, rfl, rfl⟩
        rw [List.getElem?_map] at hi
        cases qn : (nbr js p')[i]? with
        | none => rw [qn] at hi; cases hi
        | some x =>
          rw [qn] at hi
          have e1 := (Option.some.inj hi).symm
          subst e1
          obtain ⟨k, o, a⟩ := x
          have hx := List.mem_of_getElem? qn
          obtain ⟨j, hj, hja, _⟩ := nbr_mem hx
          have ha2 : a < 2 := by rw [← hja]; exact (hw.all j (List.mem_of_getElem? hj)).2.2.2
          have l2 := shape es2 wt2 g2
          refine eg_tup rfl (egs_cons (eg_name (egs_cons (eg_name (egs_cons (eg_name (egs_nil ?_)))))))
          refine s_if (et_B (e_dnotin (e_var rfl (e_varq rfl ⟨_, .inl (o : Int), .q (idx2 _ _), rfl, _, rfl, fun hb => ?_, fun hb => ?_⟩))))
          · have hno : ∀ e ∈ es2, e.1 ≠ o := fun e he z => by
              subst z
              rw [valE_some he g2.keys] at hb
              simp at hb
            refine s_seq (s_asgH (e_tup (ea_cons (e_op (e_var rfl (e_var rfl (rr_I0 ⟨_, _, rfl, rfl, ?_⟩)))))))
            have wl : w.length ≤ js.length := nd_len js.length w (g.all _ he).nd (fun k hk => by
              obtain ⟨j2, _, _, _, _, f1, _⟩ := (g.all _ he).fit k hk
              exact (List.getElem?_eq_some_iff.mp f1).1)
            have jl := hw.len
            refine ea_cons (e_op (e_var rfl (e_tup (ea_cons (e_var rfl (ea_nil ⟨[_], rfl, Nat.le_of_ble_eq_true rfl, rr_catA ⟨_, _, rfl, rfl, by simp; omega, ?_⟩⟩))))))
            refine ea_nil ⟨[_, _], rfl, Nat.le_of_ble_eq_true rfl, ?_⟩
            refine egh_set (e_varq rfl ⟨_, rfl, e_var rfl ⟨.inl (o : Int), _, rfl, idx2 _ _, by simp; omega, ?_⟩⟩)
            rw [set2, putE hno, xor2 hc ha2]
            have enc : es2.map encE ++ [(Sum.inl (o : Int), PyData.tuple [.int (((c + a) % 2 : Nat) : Int), .tuple ((w.map fun (k : Nat) => PyData.int k) ++ [PyData.int k])])] = (es2 ++ [(o, (c + a) % 2, w ++ [k])]).map encE := by
              simp [encE]
            rw [enc]
            refine s_drop (e_append (e_varm rfl ⟨_, rfl, e_var rfl ⟨_, _, rfl, idx3 _ _, ?_, ?_⟩⟩))
            · have : wt2.length ≤ 200 := by omega
              simp; omega
            · rw [set3]
              have g3 := g2.more hw (sub _ he) hx hno
              refine ⟨es2 ++ [(o, (c + a) % 2, w ++ [k])], wt2 ++ [o], _, _, _, g3, (fun e he => List.mem_append_left _ (sub e he)), ?_, (fun q hq => List.mem_append_left _ (wsub q hq)), ?_, ?_, by simp; omega, by simp; omega, rfl, by simp⟩
              · intro q hq
                rcases List.mem_append.mp hq with z | z
                · obtain ⟨e, he, ee⟩ := hwt2 q z
                  exact ⟨e, List.mem_append_left _ he, ee⟩
                · exact ⟨(o, (c + a) % 2, w ++ [k]), by simp, by simp at z; exact z.symm⟩
              · intro e he2
                rcases List.mem_append.mp he2 with z | z
                · rcases hnew e z with y | y
                  · exact .inl y
                  · exact .inr (List.mem_append_left _ y)
                · have : e = (o, (c + a) % 2, w ++ [k]) := by simpa using z
                  subst this
                  exact .inr (List.mem_append_right _ (by simp))
              · intro k2 x2 hk2 hx2
                by_cases hki : k2 = i
                · subst hki
                  rw [qn] at hx2
                  cases hx2
                  exact ⟨(o, (c + a) % 2, w ++ [k]), by simp, rfl⟩
                · obtain ⟨e, he, ee⟩ := hdone k2 x2 (by omega) hx2
                  exact ⟨e, List.mem_append_left _ he, ee⟩
          · refine s_next ⟨es2, wt2, _, _, _, g2, sub, hwt2, wsub, hnew, ?_, hel, hln, rfl, rfl⟩
            intro k2 x2 hk2 hx2
            by_cases hki : k2 = i
            · subst hki
              rw [qn] at hx2
              cases hx2
              apply Classical.byContradiction
              intro hno
              have hno' : ∀ e ∈ es2, e.1 ≠ o := fun e he z => hno ⟨e, he, z⟩
              rw [valE_none hno'] at hb
              simp at hb
            · exact hdone k2 x2 (by omega) hx2
      · rintro ds2 ms2 ⟨es2, wt2, o7, o8, o9, g2, sub, hwt2, wsub, hnew, hdone, hel, hln, rfl, rfl⟩
        have l2 := shape es2 wt2 g2
        have l1 := shape es wt g
        simp only [List.length_cons] at en hle
        refine ⟨wt2.length + 2 * (m - es2.length), by omega, es2, wt2, _, _, _, _, _, _, g2, hwt2, ?_, rfl, by omega, rfl, rfl⟩
        intro e he2
        rcases hnew e he2 with y | y
        · rcases hcl e y with z | z
          · rcases List.mem_cons.mp z with z | z
            · refine .inr fun k o a hk => ?_
              rw [z] at hk
              obtain ⟨i, hi, hie⟩ := List.getElem_of_mem hk
              exact hdone i (k, o, a) (by simpa using hi) (by rw [List.getElem?_eq_getElem hi, hie])
            · exact .inl (wsub _ z)
          · refine .inr fun k o a hk => ?_
            obtain ⟨e3, h3, h4⟩ := z k o a hk
            exact ⟨e3, sub _ h3, h4⟩
        · exact .inl y
  · have hwn : wt = [] := by
      cases wt with
      | nil => rfl
      | cons p wt => simp at hb
    subst hwn
    refine s_ret (e_varq rfl ⟨ms ++ [.k (kD (es.map encE))], [], rfl, by simp, ?_⟩)
    refine ⟨ms, kD (es.map encE), rfl, rfl, ?_⟩
    show R (if ms.length = ms.length then .g (kD (es.map encE)) else .q ms.length) ms
    rw [if_pos rfl]
    refine r es g fun e he => ?_
    rcases hcl e he with z | z
    · cases z
    · exact z

abbrev Row := Nat × Ent
section
variable {α : Type} {key : α → Nat} {v : α → PyData} {l : List α}
theorem valF_none {p : Nat} (h : ∀ e ∈ l, key e ≠ p) : valD (l.map fun a => ((.inl (key a : Int) : Key), v a)) (.inl (p : Int)) = none := by
  induction l with
  | nil => rfl
  | cons e r ih =>
    have h1 : ¬ ((.inl (key e : Int) : Key) = .inl (p : Int)) := fun z => by
      injection z with z
      exact h e (by simp) (by omega)
    have := ih fun e he => h e (List.mem_cons_of_mem _ he)
    simp only [valD, List.map_cons, List.find?_cons, h1, decide_false] at this ⊢
    exact this
theorem valF_some {e : α} (h : e ∈ l) (nd : (l.map key).Nodup) : valD (l.map fun a => ((.inl (key a : Int) : Key), v a)) (.inl (key e : Int)) = some (v e) := by
  induction l with
  | nil => cases h
  | cons a r ih =>
    rw [List.map_cons, List.nodup_cons] at nd
    by_cases z : key a = key e
    · rcases List.mem_cons.mp h with y | y
      · subst y
        simp [valD]
      · exact absurd (List.mem_map.mpr ⟨e, y, z.symm⟩) nd.1
    · have h1 : ¬ ((.inl (key a : Int) : Key) = .inl (key e : Int)) := fun y => by
        injection y with y
        exact z (by omega)
      have h2 : e ∈ r := by
        rcases List.mem_cons.mp h with y | y
        · exact absurd (by rw [y]) z
        · exact y
      have := ih h2 nd.2
      simp only [valD, List.map_cons, List.find?_cons, h1, decide_false] at this ⊢
      exact this
theorem putF {p : Nat} (h : ∀ e ∈ l, key e ≠ p) (d : PyData) : putD (l.map fun a => ((.inl (key a : Int) : Key), v a)) (.inl (p : Int)) d = (l.map fun a => ((.inl (key a : Int) : Key), v a)) ++ [(.inl (p : Int), d)] := by
  unfold putD
  rw [if_neg]
  intro z
  obtain ⟨kv, hm, hk⟩ := List.any_eq_true.mp z
  obtain ⟨e, he, rfl⟩ := List.mem_map.mp hm
  have z' : (.inl (key e : Int) : Key) = .inl (p : Int) := of_decide_eq_true hk
  injection z' with z'
  exact h e he (by omega)
end
abbrev dG (rs : List Row) : List (Key × PyData) := rs.map fun r => ((.inl (r.2.1 : Int) : Key), .int r.1)
abbrev dM (rs : List Row) : List (Key × PyData) := rs.map fun r => ((.inl (r.2.1 : Int) : Key), .int r.2.2.1)
abbrev dW (rs : List Row) : List (Key × PyData) := rs.map fun r => ((.inl (r.2.1 : Int) : Key), .tuple (r.2.2.2.map fun (k : Nat) => .int k))
/-- groups with their first points fs, each point's group, mark and way -/
structure SOk (m : Nat) (js : List Jn) (fs : List Nat) (rs : List Row) : Prop where
  keys : (rs.map fun r => r.2.1).Nodup
  lt : ∀ r ∈ rs, r.2.1 < m
  ok : ∀ r ∈ rs, ∃ f, fs[r.1]? = some f ∧ EOk js f (rs.map (·.2)) r.2 ∧ f ≤ r.2.1
  cl : ∀ r ∈ rs, ∀ k o c, (k, o, c) ∈ nbr js r.2.1 → ∃ r' ∈ rs, r'.1 = r.1 ∧ r'.2.1 = o
  fst : ∀ (g f : Nat), fs[g]? = some f → ((g, f, 0, []) : Row) ∈ rs
  rise : fs.Pairwise (· < ·)
theorem nbr_sym {m : Nat} {js : List Jn} (hw : JOk m js) {p k o a : Nat} (h : (k, o, a) ∈ nbr js p) : (k, p, a) ∈ nbr js o := by
  obtain ⟨j, hj, ha, he⟩ := nbr_mem h
  obtain ⟨_, _, hn, _⟩ := hw.all j (List.mem_of_getElem? hj)
  obtain ⟨h1, h2⟩ := nbr_of hj hn
  rcases he with ⟨e1, e2⟩ | ⟨e1, e2⟩
  · rw [ha, e1, e2] at h2; exact h2
  · rw [ha, e1, e2] at h1; exact h1
theorem SOk.apart {m : Nat} {js : List Jn} {fs : List Nat} {rs : List Row} {f : Nat} {es : List Ent} (hw : JOk m js) (s : SOk m js fs rs) (g : GOk m js f es) (hf : ∀ r ∈ rs, r.2.1 ≠ f) : ∀ e ∈ es, ∀ r ∈ rs, r.2.1 ≠ e.1 := fun e he r hr z => by
  have := (g.all e he).reach (fun p => ¬ ∃ r ∈ rs, r.2.1 = p) (fun p k o a hn hp ⟨r', hr', er⟩ => by
    have h1 := nbr_sym hw hn
    rw [← er] at h1
    obtain ⟨r2, h2, _, h3⟩ := s.cl r' hr' k p a h1
    exact hp ⟨r2, h2, h3⟩) (fun ⟨r', hr', er⟩ => hf r' hr' er)
  exact this ⟨r, hr, z⟩
theorem SOk.join {m : Nat} {js : List Jn} {fs : List Nat} {rs : List Row} {f : Nat} {es : List Ent} (hw : JOk m js) (s : SOk m js fs rs) (g : GOk m js f es) (hc : ∀ e ∈ es, Closed js es e.1) (hf : ∀ r ∈ rs, r.2.1 ≠ f)
    (hb : ∀ p, p < f → ∃ r ∈ rs, r.2.1 = p) (hfs : ∀ x ∈ fs, x < f) : SOk m js (fs ++ [f]) (rs ++ es.map fun e => (fs.length, e)) := by
  have ap := s.apart hw g hf
  have old : ∀ e ∈ rs.map (·.2), e ∈ (rs ++ es.map fun e => (fs.length, e)).map (·.2) := fun e he => by
    rw [List.map_append]; exact List.mem_append_left _ he
  have new : ∀ e ∈ es, e ∈ (rs ++ es.map fun e => (fs.length, e)).map (·.2) := fun e he => by
    rw [List.map_append, List.map_map]
    exact List.mem_append_right _ (List.mem_map.mpr ⟨e, he, rfl⟩)
  have gt : ∀ g x, fs[g]? = some x → (fs ++ [f])[g]? = some x := fun g x h => by
    rw [List.getElem?_append_left (List.getElem?_eq_some_iff.mp h).1]; exact h
  refine ⟨?_, fun r hr => ?_, fun r hr => ?_, fun r hr k o c hn => ?_, fun gi x h => ?_, ?_⟩
  · rw [List.map_append, List.map_map]
    refine List.nodup_append.mpr ⟨s.keys, g.keys, fun x hx y hy z => ?_⟩
    obtain ⟨r, hr, rfl⟩ := List.mem_map.mp hx
    obtain ⟨e, he, rfl⟩ := List.mem_map.mp hy
    exact ap e he r hr z
  · rcases List.mem_append.mp hr with z | z
    · exact s.lt r z
    · obtain ⟨e, he, rfl⟩ := List.mem_map.mp z
      exact g.lt e he
  · rcases List.mem_append.mp hr with z | z
    · obtain ⟨x, h1, h2, h3⟩ := s.ok r z
      exact ⟨x, gt _ _ h1, h2.mono old, h3⟩
    · obtain ⟨e, he, rfl⟩ := List.mem_map.mp z
      refine ⟨f, by simp, (g.all e he).mono new, ?_⟩
      apply Classical.byContradiction
      intro hlt
      obtain ⟨r, hr, er⟩ := hb e.1 (by show e.1 < f; exact Nat.lt_of_not_le hlt)
      exact ap e he r hr er
  · rcases List.mem_append.mp hr with z | z
    · obtain ⟨r', h1, h2, h3⟩ := s.cl r z k o c hn
      exact ⟨r', List.mem_append_left _ h1, h2, h3⟩
    · obtain ⟨e, he, rfl⟩ := List.mem_map.mp z
      obtain ⟨e', h1, h2⟩ := hc e he k o c hn
      exact ⟨(fs.length, e'), List.mem_append_right _ (List.mem_map.mpr ⟨e', h1, rfl⟩), rfl, h2⟩
  · by_cases hg : gi < fs.length
    · rw [List.getElem?_append_left hg] at h
      exact List.mem_append_left _ (s.fst gi x h)
    · have hl := (List.getElem?_eq_some_iff.mp h).1
      simp at hl
      have : gi = fs.length := by omega
      subst this
      simp at h
      subst h
      exact List.mem_append_right _ (List.mem_map.mpr ⟨_, g.fst, rfl⟩)
  · refine List.pairwise_append.mpr ⟨s.rise, by simp, fun x hx y hy => ?_⟩
    simp at hy
    subst hy
    exact hfs x hx
theorem s_back {K : PySem.W.Frag} {t u v : TS} {ds : List SD} {ms : List MD} {P : Po} (h : S K (tSeq t (tSeq u v)) ds ms P) : S K (tSeq (tSeq t u) v) ds ms P := h
def Φ_spread : Ph := ph2 fun a b ms R => ∃ (m : Nat) (js : List Jn), a = .d (.int m) ∧ b = .d (.tuple (js.map encJ)) ∧ JOk m js ∧
  ∀ (fs : List Nat) (rs : List Row), SOk m js fs rs → (∀ p, p < m → ∃ r ∈ rs, r.2.1 = p) → R (.d (.tuple [.dict (kD (dG rs)), .dict (kD (dM rs)), .dict (kD (dW rs))])) ms
theorem len_spread : ∀ as ms R, Φ_spread as ms R → as.length = 2 := ph2_len
theorem rd_spread {K : PySem.W.Frag} : ∀ as ms R, Φ_spread as ms R → S K (t_spread K Φ_joins_at Φ_group_from) (as ++ List.replicate (11 - as.length) .u) ms (fin R) := by
  rintro as ms R ⟨a, b, rfl, m, js, rfl, rfl, hw, r⟩
  have hm60 := hw.m60
  unfold t_spread
  refine s_seq (s_asg (e_call (ea_cons (e_var rfl (ea_cons (e_var rfl (ea_nil ⟨_, _, rfl, m, js, rfl, rfl, hw, ?_⟩)))))))
  refine s_assoc (s_assoc (s_mid (fun ds' ms' => ∃ (fs : List Nat) (rs : List Row) (o6 o7 o8 o9 o10 : SD), SOk m js fs rs ∧ (∀ p, p < m → ∃ r ∈ rs, r.2.1 = p) ∧ ms' = ms ∧
    ds' = [.d (.int m), .d (.tuple (js.map encJ)), .d (.list ((nearJ js m).map .list)), .d (.dict (kD (dG rs))), .d (.dict (kD (dM rs))), .d (.dict (kD (dW rs))), o6, o7, o8, o9, o10]) ?_ ?_))
  · refine s_back ?_
    refine s_par3D (s_newD (e_dnewG ⟨_, rfl, s_newD (e_dnewG ⟨_, rfl, s_newD (e_dnewG ⟨_, rfl, ?_⟩)⟩)⟩))
    have l1 : (ms ++ [MD.k []]).length = ms.length + 1 := by simp
    have l2 : (ms ++ [MD.k []] ++ [MD.k []]).length = ms.length + 2 := by simp
    rw [l1, l2]
    have ix0 : ∀ x y z : MD, (ms ++ [x] ++ [y] ++ [z])[ms.length]? = some x := fun x y z => by simp
    have ix1 : ∀ x y z : MD, (ms ++ [x] ++ [y] ++ [z])[ms.length + 1]? = some y := fun x y z => by
      rw [List.append_assoc (ms ++ [x]), List.getElem?_append_right (by simp)]
      simp
    have ix2 : ∀ x y z : MD, (ms ++ [x] ++ [y] ++ [z])[ms.length + 2]? = some z := fun x y z => by
      rw [List.getElem?_append_right (by simp)]
      simp
    have st0 : ∀ x y z u : MD, (ms ++ [x] ++ [y] ++ [z]).set ms.length u = ms ++ [u] ++ [y] ++ [z] := fun x y z u => by
      simp only [List.append_assoc]
      rw [List.set_append_right _ _ (Nat.le_refl _), Nat.sub_self]
      rfl
    have st1 : ∀ x y z u : MD, (ms ++ [x] ++ [y] ++ [z]).set (ms.length + 1) u = ms ++ [x] ++ [u] ++ [z] := fun x y z u => by
      simp only [List.append_assoc]
      rw [List.set_append_right _ _ (by omega), Nat.add_sub_cancel_left]
      rfl
    have st2 : ∀ x y z u : MD, (ms ++ [x] ++ [y] ++ [z]).set (ms.length + 2) u = ms ++ [x] ++ [y] ++ [u] := fun x y z u => by
      simp only [List.append_assoc]
      rw [List.set_append_right _ _ (by omega), Nat.add_sub_cancel_left]
      rfl
    refine s_seq (s_asg (e_int ?_))
    refine s_forR (js := [7]) (ea_cons (e_var rfl (ea_nil ⟨_, rfl, by omega, fun i ds' ms' => ∃ (fs : List Nat) (rs : List Row) (o7 o8 o9 o10 : SD), SOk m js fs rs ∧ (∀ p, p < i → ∃ r ∈ rs, r.2.1 = p) ∧ (∀ x ∈ fs, x < i) ∧
      ds' = [.d (.int m), .d (.tuple (js.map encJ)), .d (.list ((nearJ js m).map .list)), .q ms.length, .q (ms.length + 1), .q (ms.length + 2), .d (.int fs.length), o7, o8, o9, o10] ∧ ms' = ms ++ [.k (kD (dG rs))] ++ [.k (kD (dM rs))] ++ [.k (kD (dW rs))],
      ⟨[], [], .u, .u, .u, .u, ⟨List.nodup_nil, (fun r hr => by cases hr), (fun r hr => by cases hr), (fun r hr => by cases hr), (fun g f h => by simp at h), List.Pairwise.nil⟩, (fun p hp => by omega), (fun x hx => by cases hx), rfl, rfl⟩, ?_, ?_⟩)))
    · rintro i ds' ms' hi ⟨fs, rs, o7, o8, o9, o10, s, hb, hfs, rfl, rfl⟩
      have him : i < m := by omega
      refine eg_name ?_
      have rl : ∀ (fs : List Nat) (rs : List Row), SOk m js fs rs → rs.length ≤ 60 := fun fs rs s => by
        have := nd_len m (rs.map fun r => r.2.1) s.keys (fun x hx => by
          obtain ⟨r, hr, rfl⟩ := List.mem_map.mp hx
          exact s.lt r hr)
        simp at this
        omega
      refine s_if (et_B (e_dnotin (e_var rfl (e_varq rfl ⟨_, .inl (i : Int), .q (ix0 _ _ _), rfl, _, rfl, fun hb' => ?_, fun hb' => ?_⟩))))
      · have hno : ∀ r ∈ rs, r.2.1 ≠ i := fun r hr z => by
          subst z
          rw [valF_some (key := fun r : Row => r.2.1) hr s.keys] at hb'
          simp at hb'
        refine s_seq (s_forD (js := [8, 9, 10]) (e_call (ea_cons (e_var rfl (ea_cons (e_var rfl (ea_nil ⟨_, _, rfl, m, js, i, rfl, rfl, hw, him, fun es g hc => ?_⟩)))))))
        have ap := s.apart hw g hno
        have sj := s.join hw g hc hno hb hfs
        have rj := rl _ _ sj
        simp only [List.length_append, List.length_map] at rj
        refine ⟨_, rfl, fun k ds2 ms2 => ∃ (o8 o9 o10 : SD), ds2 = [.d (.int m), .d (.tuple (js.map encJ)), .d (.list ((nearJ js m).map .list)), .q ms.length, .q (ms.length + 1), .q (ms.length + 2), .d (.int fs.length), .d (.int i), o8, o9, o10] ∧
          ms2 = ms ++ [.k (kD (dG (rs ++ (es.take k).map fun e => (fs.length, e))))] ++ [.k (kD (dM (rs ++ (es.take k).map fun e => (fs.length, e))))] ++ [.k (kD (dW (rs ++ (es.take k).map fun e => (fs.length, e))))], ⟨_, _, _, rfl, by simp⟩, ?_, ?_⟩
        · rintro k kk ee ds2 ms2 hk ⟨o8, o9, o10, rfl, rfl⟩
          rw [List.getElem?_map] at hk
          cases qe : es[k]? with
          | none => rw [qe] at hk; cases hk
          | some e0 =>
            rw [qe] at hk
            have hk' : encE e0 = (kk, ee) := Option.some.inj hk
            unfold encE at hk'
            injection hk' with k1 k2
            subst k1 k2
            have hkl := (List.getElem?_eq_some_iff.mp qe).1
            have dis : ∀ r ∈ rs ++ (es.take k).map (fun e => (fs.length, e)), r.2.1 ≠ e0.1 := fun r hr => by
              rcases List.mem_append.mp hr with z | z
              · exact ap e0 (List.mem_of_getElem? qe) r z
              · obtain ⟨e, he, rfl⟩ := List.mem_map.mp z
                have nd := g.keys
                have sl : ((es.take (k + 1)).map (·.1)).Nodup := nd.sublist ((List.take_sublist _ _).map _)
                rw [take_snoc qe, List.map_append] at sl
                exact (List.nodup_append.mp sl).2.2 e.1 (List.mem_map.mpr ⟨e, he, rfl⟩) e0.1 (by simp)
            have hlen : (rs ++ (es.take k).map (fun e => (fs.length, e))).length < 10000 := by
              simp only [List.length_append, List.length_map, List.length_take]
              omega
            have nxt : rs ++ (es.take (k + 1)).map (fun e => (fs.length, e)) = (rs ++ (es.take k).map (fun e => (fs.length, e))) ++ [(fs.length, e0)] := by
              rw [take_snoc qe, List.map_append, List.append_assoc]
              rfl
            refine eg_tup rfl (egs_cons (eg_name (egs_cons (eg_tup rfl (egs_cons (eg_name (egs_cons (eg_name (egs_nil (egs_nil ?_))))))))))
            refine s_asgH (e_tup (ea_cons (e_var rfl (ea_cons (e_var rfl (ea_cons (e_var rfl (ea_nil ⟨[_, _, _], rfl, Nat.le_of_ble_eq_true rfl, ?_⟩))))))))
            refine egh_tup rfl (eghs_cons (egh_set (e_varq rfl ⟨_, rfl, e_var rfl ⟨.inl (e0.1 : Int), _, rfl, ix0 _ _ _, by rw [List.length_map]; exact hlen, ?_⟩⟩)))
            rw [st0, putF (key := fun r : Row => r.2.1) dis]
            refine eghs_cons (egh_set (e_varq rfl ⟨_, rfl, e_var rfl ⟨.inl (e0.1 : Int), _, rfl, ix1 _ _ _, by rw [List.length_map]; exact hlen, ?_⟩⟩))
            rw [st1, putF (key := fun r : Row => r.2.1) dis]
            refine eghs_cons (egh_set (e_varq rfl ⟨_, rfl, e_var rfl ⟨.inl (e0.1 : Int), _, rfl, ix2 _ _ _, by rw [List.length_map]; exact hlen, ?_⟩⟩))
            rw [st2, putF (key := fun r : Row => r.2.1) dis]
            refine eghs_nil ⟨_, _, _, rfl, ?_⟩
            rw [nxt]
            simp only [dG, dM, dW, List.map_append, List.map_cons, List.map_nil]
        · rintro ds2 ms2 ⟨o8, o9, o10, rfl, rfl⟩
          refine s_augI rfl (e_int ⟨_, rfl, ?_⟩)
          refine ⟨fs ++ [i], rs ++ es.map (fun e => (fs.length, e)), .d (.int i), o8, o9, o10, sj, fun p hp => ?_, fun x hx => ?_, ?_, ?_⟩
          · by_cases z : p = i
            · subst z
              exact ⟨(fs.length, p, 0, []), List.mem_append_right _ (List.mem_map.mpr ⟨_, g.fst, rfl⟩), rfl⟩
            · obtain ⟨r, hr, er⟩ := hb p (by omega)
              exact ⟨r, List.mem_append_left _ hr, er⟩
          · rcases List.mem_append.mp hx with z | z
            · have := hfs x z; omega
            · simp at z; omega
          · simp
          · rw [List.take_of_length_le (by simp)]
      · refine s_next ⟨fs, rs, _, _, _, _, s, fun p hp => ?_, fun x hx => by have := hfs x hx; omega, rfl, rfl⟩
        by_cases z : p = i
        · subst z
          apply Classical.byContradiction
          intro hno
          have hno' : ∀ r ∈ rs, r.2.1 ≠ p := fun r hr z => hno ⟨r, hr, z⟩
          rw [valF_none (key := fun r : Row => r.2.1) hno'] at hb'
          simp at hb'
        · exact hb p (by omega)
    · rintro ds' ms' ⟨fs, rs, o7, o8, o9, o10, s, hb, hfs, rfl, rfl⟩
      refine ⟨ms ++ [.k (kD (dG rs))] ++ [.k (kD (dM rs))], kD (dW rs), rfl, by simp, ms ++ [.k (kD (dG rs))], kD (dM rs), rfl, by simp, ms, kD (dG rs), rfl, rfl, ?_⟩
      refine ⟨fs, rs, frzSK ms.length (kD (dG rs)) (frzSK (ms.length + 1) (kD (dM rs)) (frzSK (ms.length + 2) (kD (dW rs)) (.d (.int fs.length)))), frzSK ms.length (kD (dG rs)) (frzSK (ms.length + 1) (kD (dM rs)) (frzSK (ms.length + 2) (kD (dW rs)) o7)), frzSK ms.length (kD (dG rs)) (frzSK (ms.length + 1) (kD (dM rs)) (frzSK (ms.length + 2) (kD (dW rs)) o8)), frzSK ms.length (kD (dG rs)) (frzSK (ms.length + 1) (kD (dM rs)) (frzSK (ms.length + 2) (kD (dW rs)) o9)), frzSK ms.length (kD (dG rs)) (frzSK (ms.length + 1) (kD (dM rs)) (frzSK (ms.length + 2) (kD (dW rs)) o10)), s, fun p hp => hb p (by simpa using hp), rfl, ?_⟩
      simp [frzSK]
  · rintro ds' ms' ⟨fs, rs, o6, o7, o8, o9, o10, s, hb, rfl, rfl⟩
    refine s_ret (e_tup (ea_cons (e_var rfl (ea_cons (e_var rfl (ea_cons (e_var rfl (ea_nil ⟨[_, _, _], rfl, Nat.le_of_ble_eq_true rfl, ?_⟩))))))))
    exact r fs rs s hb

abbrev tN (w : List Nat) : PyData := .tuple (w.map fun (k : Nat) => .int k)
def outOf (w1 w2 : List Nat) : List Nat := w1.filter fun k => !decide (k ∈ w2)
def Φ_ring_closed : Ph := ph3 fun a b c ms R => ∃ (w1 w2 : List Nat) (k : Nat), a = .d (tN w1) ∧ b = .d (tN w2) ∧ c = .d (.int k) ∧ w1.length ≤ 1000 ∧ w2.length ≤ 1000 ∧
  ∀ ns : List Nat, ns.Perm (outOf w1 w2 ++ outOf w2 w1 ++ [k]) → ns.Pairwise (· ≤ ·) → R (.d (tN ns)) ms
theorem len_ring_closed : ∀ as ms R, Φ_ring_closed as ms R → as.length = 3 := ph3_len
theorem outOf_snoc {w1 w2 : List Nat} {i x : Nat} (h : w1[i]? = some x) : outOf (w1.take (i + 1)) w2 = outOf (w1.take i) w2 ++ (if x ∈ w2 then [] else [x]) := by
  unfold outOf
  rw [take_snoc h, List.filter_append]
  by_cases z : x ∈ w2 <;> simp [z]
theorem mem_cast {x : Nat} {w : List Nat} : decide ((x : Int) ∈ w.map fun (k : Nat) => (k : Int)) = decide (x ∈ w) := by
  by_cases z : x ∈ w
  · rw [decide_eq_true z, decide_eq_true (List.mem_map.mpr ⟨x, z, rfl⟩)]
  · rw [decide_eq_false z, decide_eq_false fun y => by
      obtain ⟨a, ha, e⟩ := List.mem_map.mp y
      have : a = x := by omega
      exact z (this ▸ ha)]
theorem tN_ints (w : List Nat) : (w.map fun (k : Nat) => PyData.int k) = (w.map fun (k : Nat) => (k : Int)).map PyData.int := by
  rw [List.map_map]
  rfl
theorem nats_of : ∀ (ns : List Int) (w : List Nat), ns.Perm (w.map fun (k : Nat) => (k : Int)) → ∃ us : List Nat, ns = us.map (fun (k : Nat) => (k : Int)) ∧ us.Perm w := by
  intro ns w h
  refine ⟨ns.map Int.toNat, ?_, ?_⟩
  · rw [List.map_map]
    have : ∀ x ∈ ns, ((fun (k : Nat) => (k : Int)) ∘ Int.toNat) x = x := fun x hx => by
      obtain ⟨a, _, e⟩ := List.mem_map.mp (h.mem_iff.mp hx)
      subst e
      rfl
    rw [List.map_congr_left this]
    simp
  · have := h.map Int.toNat
    rw [List.map_map] at this
    have e : w.map (Int.toNat ∘ fun (k : Nat) => (k : Int)) = w := by
      have : (Int.toNat ∘ fun (k : Nat) => (k : Int)) = id := by
        funext x
        exact Int.toNat_natCast x
      rw [this, List.map_id]
    rw [e] at this
    exact this
theorem rd_ring_closed {K : PySem.W.Frag} : ∀ as ms R, Φ_ring_closed as ms R → S K (t_ring_closed K) (as ++ List.replicate (6 - as.length) .u) ms (fin R) := by
  rintro as ms R ⟨a, b, c, rfl, w1, w2, k, rfl, rfl, rfl, l1, l2, r⟩
  unfold t_ring_closed
  refine s_seq (s_asg (e_lcT (js := [4]) (by simp) (e_var rfl ⟨_, rfl, by rw [List.length_map]; omega, fun i acc ms' => acc = (outOf (w1.take i) w2).map (fun (k : Nat) => PyData.int k) ∧ ms = ms', ⟨rfl, rfl⟩, ?_, ?_⟩)))
  · rintro i e acc ms' hi ⟨rfl, rfl⟩
    rw [List.getElem?_map] at hi
    cases q : w1[i]? with
    | none => rw [q] at hi; cases hi
    | some x =>
      rw [q] at hi
      have e1 := (Option.some.inj hi).symm
      subst e1
      refine eg_name (et_test (e_op (e_var rfl (e_var rfl (rr_in ⟨x, w2.map fun (k : Nat) => (k : Int), rfl, .inr (by rw [← tN_ints]; exact .d _), ?_⟩)))))
      rw [mem_cast]
      refine ⟨_, rfl, fun hb => ?_, fun hb => ?_⟩
      · have hx : ¬ x ∈ w2 := by simpa using hb
        refine e_var rfl ⟨_, rfl, ?_, rfl⟩
        rw [outOf_snoc q, if_neg hx, List.map_append]
        rfl
      · have hx : x ∈ w2 := by simpa using hb
        refine ⟨?_, rfl⟩
        rw [outOf_snoc q, if_pos hx, List.append_nil]
  rintro acc _ ⟨rfl, hms⟩
  subst hms
  rw [List.length_map, List.take_length]
  refine s_seq (s_asg (e_lcT (js := [4]) (by simp) (e_var rfl ⟨_, rfl, by rw [List.length_map]; omega, fun i acc ms' => acc = (outOf (w2.take i) w1).map (fun (k : Nat) => PyData.int k) ∧ ms = ms', ⟨rfl, rfl⟩, ?_, ?_⟩)))
  · rintro i e acc ms' hi ⟨rfl, rfl⟩
    rw [List.getElem?_map] at hi
    cases q : w2[i]? with
    | none => rw [q] at hi; cases hi
    | some x =>
      rw [q] at hi
      have e1 := (Option.some.inj hi).symm
      subst e1
      refine eg_name (et_test (e_op (e_var rfl (e_var rfl (rr_in ⟨x, w1.map fun (k : Nat) => (k : Int), rfl, .inr (by rw [← tN_ints]; exact .d _), ?_⟩)))))
      rw [mem_cast]
      refine ⟨_, rfl, fun hb => ?_, fun hb => ?_⟩
      · have hx : ¬ x ∈ w1 := by simpa using hb
        refine e_var rfl ⟨_, rfl, ?_, rfl⟩
        rw [outOf_snoc q, if_neg hx, List.map_append]
        rfl
      · have hx : x ∈ w1 := by simpa using hb
        refine ⟨?_, rfl⟩
        rw [outOf_snoc q, if_pos hx, List.append_nil]
  rintro acc _ ⟨rfl, hms⟩
  subst hms
  rw [List.length_map, List.take_length]
  have o1 : (outOf w1 w2).length ≤ w1.length := List.length_filter_le _ _
  have o2 : (outOf w2 w1).length ≤ w2.length := List.length_filter_le _ _
  refine s_ret (e_cb (ea_cons (e_cb (ea_cons (e_op (e_op (e_var rfl (e_var rfl (rr_cat ⟨_, _, rfl, rfl, by simp; omega, ?_⟩)))))))))
  refine e_lst (ea_cons (e_var rfl (ea_nil ⟨[_], rfl, Nat.le_of_ble_eq_true rfl, rr_cat ⟨_, _, rfl, rfl, by simp; omega, ?_⟩⟩)))
  have cat : ((outOf w1 w2).map (fun (k : Nat) => PyData.int k) ++ (outOf w2 w1).map (fun (k : Nat) => PyData.int k)) ++ [PyData.int k] = ((outOf w1 w2 ++ outOf w2 w1 ++ [k]).map fun (k : Nat) => (k : Int)).map PyData.int := by
    simp only [List.map_append, List.map_cons, List.map_nil, List.map_map]
    rfl
  rw [cat]
  refine ea_nil (rc_sorted ⟨_, _, rfl, .d _, fun ns' hp hs => ?_⟩)
  refine ea_nil (rc_tuple ⟨_, _, rfl, .inl (.d _), ?_⟩)
  obtain ⟨us, rfl, hu⟩ := nats_of _ _ hp
  rw [← tN_ints]
  refine r us hu ?_
  rw [List.pairwise_map] at hs
  exact hs.imp fun h => by omega

structure RingOk (js : List Jn) (ns : List Nat) : Prop where
  rise : ns.Pairwise (· < ·)
  ne : ns ≠ []
  lt : ∀ k ∈ ns, k < js.length
  ends : ∀ x, endN js ns x % 2 = 0
  odd : apN js ns % 2 = 1
theorem sum_perm {α : Type} (f : α → Nat) {l l' : List α} (h : l.Perm l') : (l.map f).sum = (l'.map f).sum := by
  induction h with
  | nil => rfl
  | cons x _ ih => simp [ih]
  | swap x y l => simp; omega
  | trans _ _ h1 h2 => exact h1.trans h2
theorem sum_part (f : Nat → Nat) (p : Nat → Bool) : ∀ w : List Nat, (w.map f).sum = ((w.filter fun k => !p k).map f).sum + ((w.filter p).map f).sum
  | [] => rfl
  | x :: r => by
    have := sum_part f p r
    cases h : p x <;> simp [h, this] <;> omega
theorem nd_perm : ∀ {a b : List Nat}, a.Nodup → b.Nodup → (∀ x, x ∈ a ↔ x ∈ b) → a.Perm b
  | [], b, _, _, h => by
    cases b with
    | nil => exact .nil
    | cons x r => exact absurd ((h x).mpr (by simp)) (by simp)
  | x :: a, b, na, nb, h => by
    have hx : x ∈ b := (h x).mp (by simp)
    have h2 : a.Perm (b.erase x) := nd_perm (List.nodup_cons.mp na).2 (nb.erase x) fun y => by
      rw [nb.mem_erase_iff]
      constructor
      · intro hy
        exact ⟨fun z => by subst z; exact (List.nodup_cons.mp na).1 hy, (h y).mp (List.mem_cons_of_mem _ hy)⟩
      · rintro ⟨z, hy⟩
        rcases List.mem_cons.mp ((h y).mpr hy) with e | e
        · exact absurd e z
        · exact e
    exact (h2.cons x).trans (List.perm_cons_erase hx).symm
theorem sum_sym (f : Nat → Nat) {w1 w2 : List Nat} (n1 : w1.Nodup) (n2 : w2.Nodup) : (((outOf w1 w2 ++ outOf w2 w1).map f).sum) % 2 = ((w1.map f).sum + (w2.map f).sum) % 2 := by
  have e1 := sum_part f (fun k => decide (k ∈ w2)) w1
  have e2 := sum_part f (fun k => decide (k ∈ w1)) w2
  have pm : (w1.filter fun k => decide (k ∈ w2)).Perm (w2.filter fun k => decide (k ∈ w1)) := nd_perm (n1.filter _) (n2.filter _) fun x => by simp [and_comm]
  have e3 := sum_perm f pm
  unfold outOf
  rw [List.map_append, List.sum_append]
  omega
theorem row_inj {m : Nat} {js : List Jn} {fs : List Nat} {rs : List Row} (s : SOk m js fs rs) {r1 r2 : Row} (h1 : r1 ∈ rs) (h2 : r2 ∈ rs) (e : r1.2.1 = r2.2.1) : r1 = r2 := by
  have nd := s.keys
  clear s
  induction rs with
  | nil => cases h1
  | cons a r ih =>
    rw [List.map_cons, List.nodup_cons] at nd
    rcases List.mem_cons.mp h1 with z1 | z1 <;> rcases List.mem_cons.mp h2 with z2 | z2
    · rw [z1, z2]
    · subst z1
      exact absurd (List.mem_map.mpr ⟨r2, z2, e.symm⟩) nd.1
    · subst z2
      exact absurd (List.mem_map.mpr ⟨r1, z1, e⟩) nd.1
    · exact ih z1 z2 nd.2
/-- the ring that a join closes whose points have marks that don't fit -/
theorem ring_of {m : Nat} {js : List Jn} {fs : List Nat} {rs : List Row} (hw : JOk m js) (s : SOk m js fs rs) {k : Nat} {j : Jn} (hj : js[k]? = some j) {r1 r2 : Row} (h1 : r1 ∈ rs) (h2 : r2 ∈ rs) (e1 : r1.2.1 = j.1) (e2 : r2.2.1 = j.2.1)
    (odd : (r1.2.2.1 + r2.2.2.1) % 2 ≠ j.2.2) {ns : List Nat} (hp : ns.Perm (outOf r1.2.2.2 r2.2.2.2 ++ outOf r2.2.2.2 r1.2.2.2 ++ [k])) (hs : ns.Pairwise (· ≤ ·)) : RingOk js ns := by
  obtain ⟨_, _, hn, hb⟩ := hw.all j (List.mem_of_getElem? hj)
  obtain ⟨n1, n2⟩ := nbr_of hj hn
  rw [← e1] at n1
  obtain ⟨r', hr', g', p'⟩ := s.cl r1 h1 _ _ _ n1
  have : r' = r2 := row_inj s hr' h2 (p'.trans e2.symm)
  subst this
  obtain ⟨f1, q1, ok1, _⟩ := s.ok r1 h1
  obtain ⟨f2, q2, ok2, _⟩ := s.ok r' h2
  rw [g', q1] at q2
  cases q2
  have nofit : ¬ Fits js (rs.map (·.2)) k := fun ⟨j2, c1, w1, c2, w2, g1, g2, g3, g4⟩ => by
    rw [hj] at g1
    cases g1
    obtain ⟨a1, ha1, ea1⟩ := List.mem_map.mp g2
    obtain ⟨a2, ha2, ea2⟩ := List.mem_map.mp g3
    have i1 : a1 = r1 := row_inj s ha1 h1 (by rw [ea1, e1])
    have i2 : a2 = r' := row_inj s ha2 h2 (by rw [ea2, e2])
    subst i1 i2
    rw [ea1, ea2] at odd
    exact odd g4
  have k1 : k ∉ r1.2.2.2 := fun z => nofit (ok1.fit k z)
  have k2 : k ∉ r'.2.2.2 := fun z => nofit (ok2.fit k z)
  have nd : (outOf r1.2.2.2 r'.2.2.2 ++ outOf r'.2.2.2 r1.2.2.2 ++ [k]).Nodup := by
    refine List.nodup_append.mpr ⟨List.nodup_append.mpr ⟨ok1.nd.filter _, ok2.nd.filter _, fun x hx y hy z => ?_⟩, by simp, fun x hx y hy z => ?_⟩
    · subst z
      have a := List.mem_filter.mp hx
      have b := List.mem_filter.mp hy
      have : x ∉ r'.2.2.2 := by simpa using a.2
      exact this b.1
    · have : x = k := by simp at hy; exact z.trans hy
      subst this
      rcases List.mem_append.mp hx with y | y
      · exact k1 (List.mem_filter.mp y).1
      · exact k2 (List.mem_filter.mp y).1
  have hk : k < js.length := (List.getElem?_eq_some_iff.mp hj).1
  refine ⟨?_, fun z => ?_, fun i hi => ?_, fun x => ?_, ?_⟩
  · have nd2 : ns.Nodup := hp.nodup_iff.mpr nd
    have : ns.Pairwise fun a b => a ≤ b ∧ a ≠ b := hs.and nd2
    exact this.imp fun h => by omega
  · rw [z] at hp
    have := hp.length_eq
    simp at this
  · have := hp.mem_iff.mp hi
    rcases List.mem_append.mp this with y | y
    · rcases List.mem_append.mp y with y | y
      · obtain ⟨_, _, _, _, _, g1, _⟩ := ok1.fit i (List.mem_filter.mp y).1
        exact (List.getElem?_eq_some_iff.mp g1).1
      · obtain ⟨_, _, _, _, _, g1, _⟩ := ok2.fit i (List.mem_filter.mp y).1
        exact (List.getElem?_eq_some_iff.mp g1).1
    · simp at y
      omega
  · unfold endN
    rw [sum_perm _ hp, List.map_append, List.sum_append]
    have a := sum_sym (eF js x) ok1.nd ok2.nd
    have hk1 : eF js x k = (if x = j.1 then 1 else 0) + (if x = j.2.1 then 1 else 0) := by simp [eF, hj]
    have b1 := ok1.ends x
    have b2 := ok2.ends x
    unfold endN at b1 b2
    simp only [List.map_cons, List.map_nil, List.sum_cons, List.sum_nil, hk1]
    rw [e1] at b1
    rw [e2] at b2
    omega
  · unfold apN
    rw [sum_perm _ hp, List.map_append, List.sum_append]
    have a := sum_sym (aF js) ok1.nd ok2.nd
    have hk1 : aF js k = j.2.2 := by simp [aF, hj]
    have b1 := ok1.ap
    have b2 := ok2.ap
    unfold apN at b1 b2
    simp only [List.map_cons, List.map_nil, List.sum_cons, List.sum_nil, hk1]
    have c1 := ok1.bit
    have c2 := ok2.bit
    omega
def Φ_odd_rings : Ph := ph3 fun a b c ms R => ∃ (m : Nat) (js : List Jn) (fs : List Nat) (rs : List Row), a = .d (.tuple (js.map encJ)) ∧ b = .d (.dict (kD (dM rs))) ∧ c = .d (.dict (kD (dW rs))) ∧ JOk m js ∧ SOk m js fs rs ∧ (∀ p, p < m → ∃ r ∈ rs, r.2.1 = p) ∧
  ∀ ys : List (List Nat), (∀ ns ∈ ys, RingOk js ns) → (ys = [] → ∀ (k : Nat) (j : Jn), js[k]? = some j → Fits js (rs.map (·.2)) k) → R (.f (ys.map tN)) ms
theorem len_odd_rings : ∀ as ms R, Φ_odd_rings as ms R → as.length = 3 := ph3_len
theorem rd_odd_rings {K : PySem.W.Frag} : ∀ as ms R, Φ_odd_rings as ms R → S K (t_odd_rings K Φ_ring_closed) (as ++ List.replicate (8 - as.length) .u) ms (fin R) := by
  rintro as ms R ⟨a, b, c, rfl, m, js, fs, rs, rfl, rfl, rfl, hw, s, hall, r⟩
  have jl := hw.len
  unfold t_odd_rings
  refine s_new (e_lst (ea_nil ⟨[], rfl, Nat.zero_le _, _, rfl, ?_⟩))
  refine s_seq (s_forET (js := [4, 5, 6, 7]) (ea_cons (e_var rfl (ea_nil ⟨_, rfl, fun i ds' ms' => ∃ (ys : List (List Nat)) (o4 o5 o6 o7 : SD), (∀ ns ∈ ys, RingOk js ns) ∧ ys.length ≤ i ∧ (ys = [] → ∀ (k : Nat) (j : Jn), k < i → js[k]? = some j → Fits js (rs.map (·.2)) k) ∧
    ds' = [.d (.tuple (js.map encJ)), .d (.dict (kD (dM rs))), .d (.dict (kD (dW rs))), .m ms.length, o4, o5, o6, o7] ∧ ms' = ms ++ [.l (ys.map tN)], ⟨[], .u, .u, .u, .u, (fun ns h => by cases h), Nat.le_refl _, (fun _ k j hk => by omega), rfl, rfl⟩, ?_, ?_⟩))))
  · rintro i e ds' ms' hi ⟨ys, o4, o5, o6, o7, hys, hyl, hfit, rfl, rfl⟩
    rw [List.getElem?_map] at hi
    cases q : js[i]? with
    | none => rw [q] at hi; cases hi
    | some j =>
      rw [q] at hi
      have e1 := (Option.some.inj hi).symm
      subst e1
      have hil := (List.getElem?_eq_some_iff.mp q).1
      obtain ⟨t1, t2, tn, t3⟩ := hw.all j (List.mem_of_getElem? q)
      obtain ⟨r1, h1, p1⟩ := hall j.1 t1
      obtain ⟨r2, h2, p2⟩ := hall j.2.1 t2
      obtain ⟨_, _, ok1, _⟩ := s.ok r1 h1
      obtain ⟨_, _, ok2, _⟩ := s.ok r2 h2
      have v1 := valF_some (key := fun r : Row => r.2.1) (v := fun r : Row => PyData.int r.2.2.1) h1 s.keys
      have v2 := valF_some (key := fun r : Row => r.2.1) (v := fun r : Row => PyData.int r.2.2.1) h2 s.keys
      have u1 := valF_some (key := fun r : Row => r.2.1) (v := fun r : Row => tN r.2.2.2) h1 s.keys
      have u2 := valF_some (key := fun r : Row => r.2.1) (v := fun r : Row => tN r.2.2.2) h2 s.keys
      rw [p1] at v1 u1
      rw [p2] at v2 u2
      refine eg_tup rfl (egs_cons (eg_name (egs_cons (eg_tup rfl (egs_cons (eg_name (egs_cons (eg_name (egs_cons (eg_name (egs_nil (egs_nil ?_))))))))))))
      refine s_if (et_test (e_op (e_op (e_dget (e_var rfl (e_var rfl ⟨_, .inl (j.1 : Int), _, .d (dM rs), rfl, v1, ?_⟩))))))
      refine e_dget (e_var rfl (e_var rfl ⟨_, .inl (j.2.1 : Int), _, .d (dM rs), rfl, v2, rr_I0 ⟨_, _, rfl, rfl, ?_⟩⟩))
      rw [xor2 ok1.bit ok2.bit]
      refine e_var rfl (rr_ne ⟨_, _, .d _, .d _, rfl, rfl, ?_⟩)
      have eq : PyData.eqv (.int (((r1.2.2.1 + r2.2.2.1) % 2 : Nat) : Int)) (.int (j.2.2 : Nat)) = decide ((r1.2.2.1 + r2.2.2.1) % 2 = j.2.2) := by
        show ((((r1.2.2.1 + r2.2.2.1) % 2 : Nat) : Int) == ((j.2.2 : Nat) : Int)) = _
        by_cases z : (r1.2.2.1 + r2.2.2.1) % 2 = j.2.2
        · rw [z]; simp
        · rw [decide_eq_false z]
          simp
          omega
      rw [eq]
      refine ⟨_, rfl, fun hb => ?_, fun hb => ?_⟩
      · have odd : (r1.2.2.1 + r2.2.2.1) % 2 ≠ j.2.2 := by simpa using hb
        have len : ∀ {f : Nat} {e : Ent}, EOk js f (rs.map (·.2)) e → e.2.2.length ≤ 1000 := fun {f e} ok => by
          have := nd_len js.length e.2.2 ok.nd (fun k hk => by
            obtain ⟨_, _, _, _, _, g1, _⟩ := ok.fit k hk
            exact (List.getElem?_eq_some_iff.mp g1).1)
          omega
        refine s_drop (e_append (e_varm rfl ⟨_, rfl, e_call (ea_cons (e_dget (e_var rfl (e_var rfl ⟨_, .inl (j.1 : Int), _, .d (dW rs), rfl, u1, ?_⟩)))) ⟩))
        refine ea_cons (e_dget (e_var rfl (e_var rfl ⟨_, .inl (j.2.1 : Int), _, .d (dW rs), rfl, u2, ?_⟩)))
        refine ea_cons (e_var rfl (ea_nil ⟨_, _, _, rfl, r1.2.2.2, r2.2.2.2, i, rfl, rfl, rfl, len ok1, len ok2, fun ns hp hs => ?_⟩))
        have ring := ring_of hw s q h1 h2 p1 p2 odd hp hs
        refine ⟨_, _, rfl, (by simp : (ms ++ [MD.l (ys.map tN)])[ms.length]? = some (.l (ys.map tN))), by rw [List.length_map]; omega, ?_⟩
        refine ⟨ys ++ [ns], _, _, _, _, fun n hn => ?_, by simp; omega, (fun z => by simp at z), rfl, by simp⟩
        rcases List.mem_append.mp hn with z | z
        · exact hys n z
        · have : n = ns := by simpa using z
          subst this
          exact ring
      · have fit : (r1.2.2.1 + r2.2.2.1) % 2 = j.2.2 := by simpa using hb
        refine s_next ⟨ys, _, _, _, _, hys, by omega, fun z k j' hk hj' => ?_, rfl, rfl⟩
        by_cases hki : k = i
        · subst hki
          rw [q] at hj'
          cases hj'
          refine ⟨j, r1.2.2.1, r1.2.2.2, r2.2.2.1, r2.2.2.2, q, List.mem_map.mpr ⟨r1, h1, ?_⟩, List.mem_map.mpr ⟨r2, h2, ?_⟩, fit⟩
          · rw [← p1]
          · rw [← p2]
        · exact hfit z k j' (by omega) hj'
  · rintro ds' ms' ⟨ys, o4, o5, o6, o7, hys, hyl, hfit, rfl, rfl⟩
    refine s_ret (e_varm rfl ⟨ms, _, rfl, rfl, ?_⟩)
    show R (if ms.length = ms.length then .f (ys.map tN) else .m ms.length) ms
    rw [if_pos rfl]
    exact r ys hys fun z k j hj => hfit z k j (by rw [List.length_map]; exact (List.getElem?_eq_some_iff.mp hj).1) hj

def Φ_parted : Ph := ph2 fun a b ms R => ∃ (m : Nat) (js : List Jn), a = .d (.int m) ∧ b = .d (.tuple (js.map encJ)) ∧ JOk m js ∧
  (∀ ns, RingOk js ns → R (.d (.tuple [.str "ring", tN ns])) ms) ∧
  ∀ (fs : List Nat) (rs : List Row) (G C : Nat → Nat), SOk m js fs rs → (∀ p, p < m → ∃ w, ((G p, p, C p, w) : Row) ∈ rs) → (∀ (k : Nat) (j : Jn), js[k]? = some j → Fits js (rs.map (·.2)) k) →
    R (.d (.tuple [.str "groups", tN ((List.range m).map G), tN ((List.range m).map C)])) ms
theorem len_parted : ∀ as ms R, Φ_parted as ms R → as.length = 2 := ph2_len
theorem range_snocN (i : Nat) (G : Nat → Nat) : ((List.range (i + 1)).map G).map (fun (k : Nat) => PyData.int k) = ((List.range i).map G).map (fun (k : Nat) => PyData.int k) ++ [PyData.int (G i)] := by
  rw [List.range_succ, List.map_append, List.map_append]
  rfl
theorem rd_parted {K : PySem.W.Frag} : ∀ as ms R, Φ_parted as ms R → S K (t_parted K Φ_spread Φ_odd_rings) (as ++ List.replicate (7 - as.length) .u) ms (fin R) := by
  rintro as ms R ⟨a, b, rfl, m, js, rfl, rfl, hw, r1, r2⟩
  have hm60 := hw.m60
  unfold t_parted
  refine s_seq (s_asgG (js := [2, 3, 4]) (e_call (ea_cons (e_var rfl (ea_cons (e_var rfl (ea_nil ⟨_, _, rfl, m, js, rfl, rfl, hw, fun fs rs s hall => ?_⟩)))))))
  refine eg_tup rfl (egs_cons (eg_name (egs_cons (eg_name (egs_cons (eg_name (egs_nil ?_)))))))
  refine s_seq (s_asg (e_call (ea_cons (e_var rfl (ea_cons (e_var rfl (ea_cons (e_var rfl (ea_nil ⟨_, _, _, rfl, m, js, fs, rs, rfl, rfl, rfl, hw, s, hall, fun ys hys hfit => ?_⟩)))))))))
  refine s_seq (s_if (et_tru (e_var rfl ⟨_, .inl (.d _), fun hb => ?_, fun hb => ?_⟩)))
  · have hne : 0 < (ys.map tN).length := by
      cases ys with
      | nil => simp at hb
      | cons y t => simp
    refine s_ret (e_tup (ea_cons (e_str (ea_cons (e_minL (ea_cons (e_var rfl (ea_nil ⟨_, ⟨_, rfl, .d _⟩, hne, fun e he => ?_, fun e he => ?_⟩))))))))
    · obtain ⟨n, _, rfl⟩ := List.mem_map.mp he
      exact ⟨_, rfl⟩
    · obtain ⟨n, hn, rfl⟩ := List.mem_map.mp he
      refine ea_nil ⟨[_, _], rfl, Nat.le_of_ble_eq_true rfl, ?_⟩
      exact r1 n (hys n hn)
  · have hy0 : ys = [] := by
      cases ys with
      | nil => rfl
      | cons y t => simp at hb
    refine s_next ?_
    have hall' : ∀ p : Nat, ∃ r : Row, p < m → r ∈ rs ∧ r.2.1 = p := fun p => by
      by_cases hp : p < m
      · obtain ⟨r, h1, h2⟩ := hall p hp
        exact ⟨r, fun _ => ⟨h1, h2⟩⟩
      · exact ⟨(0, 0, 0, []), fun z => absurd z hp⟩
    obtain ⟨F, hF⟩ := Classical.axiomOfChoice hall'
    have vg : ∀ p, p < m → valD (dG rs) (.inl (p : Int)) = some (.int ((F p).1 : Nat)) := fun p hp => by
      have := valF_some (key := fun r : Row => r.2.1) (v := fun r : Row => PyData.int r.1) (hF p hp).1 s.keys
      rw [(hF p hp).2] at this
      exact this
    have vc : ∀ p, p < m → valD (dM rs) (.inl (p : Int)) = some (.int ((F p).2.2.1 : Nat)) := fun p hp => by
      have := valF_some (key := fun r : Row => r.2.1) (v := fun r : Row => PyData.int r.2.2.1) (hF p hp).1 s.keys
      rw [(hF p hp).2] at this
      exact this
    refine s_ret (e_tup (ea_cons (e_str (ea_cons (e_cb (ea_cons (e_lcR (js := [6]) (by simp) (ea_cons (e_var rfl (ea_nil ⟨_, rfl, by omega, fun i acc ms' => acc = ((List.range i).map fun p => (F p).1).map (fun (k : Nat) => PyData.int k) ∧ ms = ms', ⟨rfl, rfl⟩, ?_, ?_⟩))))))))))
    · rintro i acc _ hi ⟨rfl, hms⟩
      subst hms
      have hi' : i < m := by omega
      refine eg_name (et_yes ⟨fun _ => e_dget (e_var rfl (e_var rfl ⟨_, .inl (i : Int), _, .d (dG rs), rfl, vg i hi', ⟨_, rfl, ?_, rfl⟩⟩)), nofun⟩)
      rw [range_snocN]
    rintro acc _ ⟨rfl, hms⟩
    subst hms
    refine ea_nil (rc_tuple ⟨_, _, rfl, .inl (.d _), ?_⟩)
    refine ea_cons (e_cb (ea_cons (e_lcR (js := [6]) (by simp) (ea_cons (e_var rfl (ea_nil ⟨_, rfl, by omega, fun i acc ms' => acc = ((List.range i).map fun p => (F p).2.2.1).map (fun (k : Nat) => PyData.int k) ∧ ms = ms', ⟨rfl, rfl⟩, ?_, ?_⟩))))))
    · rintro i acc _ hi ⟨rfl, hms⟩
      subst hms
      have hi' : i < m := by omega
      refine eg_name (et_yes ⟨fun _ => e_dget (e_var rfl (e_var rfl ⟨_, .inl (i : Int), _, .d (dM rs), rfl, vc i hi', ⟨_, rfl, ?_, rfl⟩⟩)), nofun⟩)
      rw [range_snocN]
    rintro acc _ ⟨rfl, hms⟩
    subst hms
    refine ea_nil (rc_tuple ⟨_, _, rfl, .inl (.d _), ?_⟩)
    refine ea_nil ⟨[_, _, _], rfl, Nat.le_of_ble_eq_true rfl, ?_⟩
    refine r2 fs rs (fun p => (F p).1) (fun p => (F p).2.2.1) s (fun p hp => ⟨(F p).2.2.2, ?_⟩) (hfit hy0)
    have h1 := (hF p hp).1
    have h2 := (hF p hp).2
    generalize F p = q at h1 h2 ⊢
    obtain ⟨q1, q2, q3, q4⟩ := q
    have h2 : q2 = p := h2
    subst h2
    exact h1

theorem sum_add (f g : Nat → Nat) : ∀ l : List Nat, (l.map fun x => f x + g x).sum = (l.map f).sum + (l.map g).sum
  | [] => rfl
  | x :: r => by
    have := sum_add f g r
    simp only [List.map_cons, List.sum_cons, this]
    omega

theorem sum_at (s : Nat → Nat) (a : Nat) : ∀ m : Nat, ((List.range m).map fun x => s x * (if x = a then 1 else 0)).sum = if a < m then s a else 0
  | 0 => by simp
  | m + 1 => by
    rw [List.range_succ, List.map_append, List.sum_append, sum_at s a m]
    simp only [List.map_cons, List.map_nil, List.sum_cons, List.sum_nil]
    by_cases h : m = a
    · subst h
      rw [if_neg (by omega), if_pos rfl, if_pos (by omega)]
      omega
    · by_cases h2 : a < m
      · rw [if_pos h2, if_neg h, if_pos (by omega)]
        omega
      · rw [if_neg h2, if_neg h, if_neg (by omega)]
        omega
def kF (js : List Jn) (s : Nat → Nat) (k : Nat) : Nat := match js[k]? with | some j => s j.1 + s j.2.1 | none => 0
theorem sum_ends {m : Nat} {js : List Jn} (hw : JOk m js) (s : Nat → Nat) : ∀ ns : List Nat, (∀ k ∈ ns, k < js.length) →
    ((List.range m).map fun x => s x * endN js ns x).sum = (ns.map (kF js s)).sum
  | [], _ => by
    have : ∀ l : List Nat, (l.map fun x => s x * endN js [] x).sum = 0 := fun l => by
      induction l with
      | nil => rfl
      | cons x r ih => simp only [List.map_cons, List.sum_cons, ih]; simp [endN]
    rw [this]
    rfl
  | k :: ns, h => by
    have ih := sum_ends hw s ns fun i hi => h i (List.mem_cons_of_mem _ hi)
    have hk := h k (by simp)
    have hj : js[k]? = some js[k] := List.getElem?_eq_getElem hk
    obtain ⟨h1, h2, h3, h4⟩ := hw.all js[k] (List.getElem_mem hk)
    have e1 : ∀ x, s x * endN js (k :: ns) x = (s x * (if x = (js[k]).1 then 1 else 0) + s x * (if x = (js[k]).2.1 then 1 else 0)) + s x * endN js ns x := fun x => by
      have : endN js (k :: ns) x = eF js x k + endN js ns x := by simp [endN]
      rw [this]
      have e2 : eF js x k = (if x = (js[k]).1 then 1 else 0) + (if x = (js[k]).2.1 then 1 else 0) := by simp [eF, hj]
      rw [e2, Nat.mul_add, Nat.mul_add]
    have e3 : (fun x => s x * endN js (k :: ns) x) = fun x => (fun x => (fun x => s x * (if x = (js[k]).1 then 1 else 0)) x + (fun x => s x * (if x = (js[k]).2.1 then 1 else 0)) x) x + (fun x => s x * endN js ns x) x := funext e1
    have e4 : kF js s k = s (js[k]).1 + s (js[k]).2.1 := by simp [kF, hj]
    rw [e3, sum_add, sum_add, sum_at, sum_at, ih, if_pos h1, if_pos h2, List.map_cons, List.sum_cons, e4]
theorem even_sum (s e : Nat → Nat) : ∀ l : List Nat, (∀ x ∈ l, e x % 2 = 0) → ((l.map fun x => s x * e x).sum) % 2 = 0
  | [], _ => rfl
  | x :: r, h => by
    have ih := even_sum s e r fun y hy => h y (List.mem_cons_of_mem _ hy)
    have hx := h x (by simp)
    simp only [List.map_cons, List.sum_cons]
    have : (s x * e x) % 2 = 0 := by rw [Nat.mul_mod, hx, Nat.mul_zero]
    omega
/-- where there is an odd ring no side keeps all joins -/
theorem ring_no {m : Nat} {js : List Jn} {ns : List Nat} (hw : JOk m js) (hr : RingOk js ns) (s : Nat → Nat) (hk : ∀ j ∈ js, (s j.1 + s j.2.1) % 2 = j.2.2) : False := by
  have e1 := sum_ends hw s ns hr.lt
  have e2 := even_sum s (fun x => endN js ns x) (List.range m) fun x _ => hr.ends x
  have e3 : ∀ l : List Nat, (∀ k ∈ l, k < js.length) → ((l.map (kF js s)).sum) % 2 = apN js l % 2 := fun l => by
    induction l with
    | nil => intro _; rfl
    | cons k r ih =>
      intro hl
      have ih := ih fun i hi => hl i (List.mem_cons_of_mem _ hi)
      have hkl := hl k (by simp)
      have hj : js[k]? = some js[k] := List.getElem?_eq_getElem hkl
      have hkk := hk js[k] (List.getElem_mem hkl)
      have ea : apN js (k :: r) = (js[k]).2.2 + apN js r := by simp [apN, aF, hj]
      have e4 : kF js s k = s (js[k]).1 + s (js[k]).2.1 := by simp [kF, hj]
      rw [List.map_cons, List.sum_cons, e4, ea]
      omega
  have e4 := e3 ns hr.lt
  have e5 := hr.odd
  rw [← e1] at e4
  omega
/-- .. so where there are groups there is none -/
theorem groups_no {m : Nat} {js : List Jn} {fs ns : List Nat} {rs : List Row} {G C : Nat → Nat} (hw : JOk m js) (s : SOk m js fs rs) (hall : ∀ p, p < m → ∃ w, ((G p, p, C p, w) : Row) ∈ rs)
    (hfit : ∀ (k : Nat) (j : Jn), js[k]? = some j → Fits js (rs.map (·.2)) k) (hr : RingOk js ns) : False := by
  refine ring_no hw hr C fun j hj => ?_
  obtain ⟨k, hk, ek⟩ := List.getElem_of_mem hj
  have hjk : js[k]? = some j := by rw [List.getElem?_eq_getElem hk, ek]
  obtain ⟨t1, t2, tn, t3⟩ := hw.all j hj
  obtain ⟨j2, c1, w1, c2, w2, g1, g2, g3, g4⟩ := hfit k j hjk
  rw [hjk] at g1
  cases g1
  obtain ⟨wa, ra⟩ := hall j.1 t1
  obtain ⟨wb, rb⟩ := hall j.2.1 t2
  obtain ⟨r1, hr1, er1⟩ := List.mem_map.mp g2
  obtain ⟨r2, hr2, er2⟩ := List.mem_map.mp g3
  have i1 : r1 = (G j.1, j.1, C j.1, wa) := row_inj s hr1 ra (by rw [er1])
  have i2 : r2 = (G j.2.1, j.2.1, C j.2.1, wb) := row_inj s hr2 rb (by rw [er2])
  rw [i1] at er1
  rw [i2] at er2
  have ec1 : C j.1 = c1 := congrArg (fun e : Ent => e.2.1) er1
  have ec2 : C j.2.1 = c2 := congrArg (fun e : Ent => e.2.1) er2
  rw [ec1, ec2]
  exact g4
theorem count_sum (f : Nat → Nat) (x : Nat) : ∀ l : List Nat, (l.map f).count x = (l.map fun k => if x = f k then 1 else 0).sum
  | [] => rfl
  | a :: r => by
    rw [List.map_cons, List.count_cons, count_sum f x r, List.map_cons, List.sum_cons]
    by_cases h : x = f a
    · subst h; simp; omega
    · have : ¬ (f a = x) := fun z => h z.symm
      simp [h, this]
theorem ends_sum {js : List Jn} {rg : List Nat} (hl : ∀ k ∈ rg, k < js.length) (x : Nat) : ((rg.map fun k => (js.getD k (0, 0, 0)).1).count x) + ((rg.map fun k => (js.getD k (0, 0, 0)).2.1).count x) = endN js rg x := by
  rw [count_sum, count_sum, ← sum_add]
  unfold endN
  congr 1
  refine List.map_congr_left fun k hk => ?_
  have h := hl k hk
  have e : js[k]? = some js[k] := List.getElem?_eq_getElem h
  simp [eF, e, List.getD]

/-! ### groups and marks, told by the sides that keep the wishes -/
def KeepF (js : List Jn) (s : Nat → Nat) : Prop := ∀ j ∈ js, (s j.1 + s j.2.1) % 2 = j.2.2
/-- s is on each group as the marks, or turned -/
def FolF (m : Nat) (gs cs : List Nat) (s : Nat → Nat) : Prop := ∀ i j, i < m → j < m → gs.getD i 0 = gs.getD j 0 → (cs.getD i 0 + s i) % 2 = (cs.getD j 0 + s j) % 2
structure GrOk (m : Nat) (js : List Jn) (gs cs : List Nat) : Prop where
  lg : gs.length = m
  lc : cs.length = m
  lt : ∀ g ∈ gs, g < m
  bit : ∀ c ∈ cs, c < 2
  iff : ∀ s : Nat → Nat, KeepF js s ↔ FolF m gs cs s
section
variable {m : Nat} {js : List Jn} {gs cs gs' cs' : List Nat}
theorem GrOk.own (b : GrOk m js gs cs) : KeepF js fun x => cs.getD x 0 := (b.iff _).mpr fun x y _ _ _ => by omega
theorem GrOk.part (a : GrOk m js gs cs) (b : GrOk m js gs' cs') {i j : Nat} (hi : i < m) (hj : j < m) (h : gs.getD i 0 = gs.getD j 0) : gs'.getD i 0 = gs'.getD j 0 := by
  apply Classical.byContradiction
  intro hne
  have q1 := (a.iff _).mp b.own i j hi hj h
  have k2 : KeepF js fun x => cs'.getD x 0 + if gs'.getD x 0 = gs'.getD i 0 then 1 else 0 := (b.iff _).mpr fun x y _ _ e => by
    show (cs'.getD x 0 + (cs'.getD x 0 + if gs'.getD x 0 = gs'.getD i 0 then 1 else 0)) % 2 = (cs'.getD y 0 + (cs'.getD y 0 + if gs'.getD y 0 = gs'.getD i 0 then 1 else 0)) % 2
    rw [e]
    omega
  have q2 := (a.iff _).mp k2 i j hi hj h
  have hne' : ¬ gs'.getD j 0 = gs'.getD i 0 := fun z => hne z.symm
  simp only [if_true, if_neg hne'] at q1 q2
  omega
theorem GrOk.mark (a : GrOk m js gs cs) (b : GrOk m js gs' cs') {i j : Nat} (hi : i < m) (hj : j < m) (h : gs.getD i 0 = gs.getD j 0) : (cs.getD i 0 + cs'.getD i 0) % 2 = (cs.getD j 0 + cs'.getD j 0) % 2 :=
  (a.iff _).mp b.own i j hi hj h
theorem getD_all {p : Nat → Prop} {l : List Nat} (h : ∀ x ∈ l, p x) {i : Nat} (hi : i < l.length) : p (l.getD i 0) := h _ (by simp [List.getD, hi])
end
theorem bit_at {cs : List Nat} (h : ∀ c ∈ cs, c < 2) (i : Nat) : cs.getD i 0 < 2 := by
  by_cases hi : i < cs.length
  · exact getD_all (p := (· < 2)) h hi
  · simp [List.getD, hi]

theorem rise_len {m : Nat} : ∀ {fs : List Nat} {a : Nat}, fs.Pairwise (· < ·) → (∀ x ∈ fs, a ≤ x ∧ x < m) → fs.length + a ≤ m ∨ fs = []
  | [], _, _, _ => .inr rfl
  | x :: r, a, hp, h => by
    obtain ⟨h1, h2⟩ := h x (by simp)
    rw [List.pairwise_cons] at hp
    rcases rise_len (m := m) (a := x + 1) hp.2 (fun y hy => ⟨hp.1 y hy, (h y (by simp [hy])).2⟩) with z | z
    · left; simp only [List.length_cons]; omega
    · left; subst z; simp only [List.length_cons, List.length_nil]; omega
theorem gr_of {m : Nat} {js : List Jn} {fs : List Nat} {rs : List Row} {G C : Nat → Nat} (hw : JOk m js) (s : SOk m js fs rs) (hall : ∀ p, p < m → ∃ w, ((G p, p, C p, w) : Row) ∈ rs)
    (hfit : ∀ (k : Nat) (j : Jn), js[k]? = some j → Fits js (rs.map (·.2)) k) : GrOk m js ((List.range m).map G) ((List.range m).map C) := by
  have gd : ∀ (F : Nat → Nat) i, i < m → ((List.range m).map F).getD i 0 = F i := fun F i hi => by
    simp [List.getD, hi]
  have fl : fs.length ≤ m := by
    rcases rise_len (m := m) (a := 0) s.rise (fun x hx => ⟨Nat.zero_le _, by
      obtain ⟨g, hg, e⟩ := List.getElem_of_mem hx
      have := s.lt _ (s.fst g x (by rw [List.getElem?_eq_getElem hg, e]))
      exact this⟩) with z | z
    · omega
    · subst z; exact Nat.zero_le _
  refine ⟨by simp, by simp, fun g hg => ?_, fun c hc => ?_, fun t => ⟨fun h i j hi hj he => ?_, fun h j hj => ?_⟩⟩
  · obtain ⟨p, hp, rfl⟩ := List.mem_map.mp hg
    obtain ⟨w, rw_⟩ := hall p (List.mem_range.mp hp)
    obtain ⟨f, h1, _⟩ := s.ok _ rw_
    have := (List.getElem?_eq_some_iff.mp h1).1
    exact Nat.lt_of_lt_of_le this fl
  · obtain ⟨p, hp, rfl⟩ := List.mem_map.mp hc
    obtain ⟨w, rw_⟩ := hall p (List.mem_range.mp hp)
    obtain ⟨f, _, h2, _⟩ := s.ok _ rw_
    exact h2.bit
  · have hk : ∀ (k : Nat) (j : Jn), js[k]? = some j → (t j.1 + t j.2.1) % 2 = j.2.2 := fun k j hj => h j (List.mem_of_getElem? hj)
    rw [gd G i hi, gd G j hj] at he
    obtain ⟨wi, ri⟩ := hall i hi
    obtain ⟨wj, rj⟩ := hall j hj
    obtain ⟨f1, q1, ok1, _⟩ := s.ok _ ri
    obtain ⟨f2, q2, ok2, _⟩ := s.ok _ rj
    have q1 : fs[G i]? = some f1 := q1
    have q2 : fs[G j]? = some f2 := q2
    rw [← he, q1] at q2
    cases q2
    have a1 : (t f1 + t i) % 2 = C i := ok1.side t hk
    have a2 : (t f1 + t j) % 2 = C j := ok2.side t hk
    rw [gd C i hi, gd C j hj]
    omega
  · obtain ⟨k, hk, ek⟩ := List.getElem_of_mem hj
    have hjk : js[k]? = some j := by rw [List.getElem?_eq_getElem hk, ek]
    obtain ⟨t1, t2, tn, t3⟩ := hw.all j hj
    obtain ⟨j2, c1, w1, c2, w2, g1, g2, g3, g4⟩ := hfit k j hjk
    rw [hjk] at g1
    cases g1
    obtain ⟨wa, ra⟩ := hall j.1 t1
    obtain ⟨wb, rb⟩ := hall j.2.1 t2
    obtain ⟨r1, hr1, er1⟩ := List.mem_map.mp g2
    obtain ⟨r2, hr2, er2⟩ := List.mem_map.mp g3
    have i1 : r1 = (G j.1, j.1, C j.1, wa) := row_inj s hr1 ra (by rw [er1])
    have i2 : r2 = (G j.2.1, j.2.1, C j.2.1, wb) := row_inj s hr2 rb (by rw [er2])
    rw [i1] at er1
    rw [i2] at er2
    have ec1 : C j.1 = c1 := congrArg (fun e : Ent => e.2.1) er1
    have ec2 : C j.2.1 = c2 := congrArg (fun e : Ent => e.2.1) er2
    obtain ⟨n1, _⟩ := nbr_of hjk tn
    obtain ⟨r', hr', g', p'⟩ := s.cl _ ra _ _ _ n1
    have i3 : r' = (G j.2.1, j.2.1, C j.2.1, wb) := row_inj s hr' rb p'
    rw [i3] at g'
    have g' : G j.2.1 = G j.1 := g'
    have hf := h j.1 j.2.1 t1 t2 (by rw [gd G _ t1, gd G _ t2, g'])
    rw [gd C _ t1, gd C _ t2] at hf
    omega

theorem ring_str : PyData.eqv (.str "ring") (.str "ring") = true := by decide +kernel
theorem groups_str : PyData.eqv (.str "groups") (.str "ring") = false := by decide +kernel

def bitsB (m : Nat) (es : List PyData) : Bool := decide (es.length = m) && es.all (numB 2)
def sideB (m : Nat) (x : PyData) : Bool := match rowOf x with
  | some es => bitsB m es
  | none => false
def turnD (es : List PyData) : List PyData := es.map fun e => match e, es with
  | .int i, .int j :: _ => .int (Builtin.bitXor i j)
  | e, _ => e
def Φ_made_side : PhX := phx2 fun a b ms R Y => ∃ (m : Nat) (ts : List Tie) (x : PyData), a = .d (encW m ts) ∧ b = .d x ∧ (∀ es, rowOf x = some es → es.length ≤ 10000) ∧ (sideB m x = true → ∀ es, rowOf x = some es → R (.d (.tuple (turnD es))) ms) ∧ (sideB m x = false → Y ms)
theorem len_made_side : ∀ as ms R Y, Φ_made_side as ms R Y → as.length = 2 := phx2_len
theorem num2_inv {e : PyData} (h : numB 2 e = true) : ∃ i, e = .int i ∧ (i = 0 ∨ i = 1) := by
  cases e with
  | int i =>
    have h2 : (decide (0 ≤ i) && decide (i < 2)) = true := h
    rw [Bool.and_eq_true] at h2
    have a := of_decide_eq_true h2.1
    have b := of_decide_eq_true h2.2
    exact ⟨i, rfl, by omega⟩
  | _ => cases h
theorem rd_made_side {K : PySem.W.Frag} {C_CutError C_NoWeb C_NoSide C_NoWishes C_TooGreat : Addr} : ∀ as ms R Y, Φ_made_side as ms R Y → SX K C_NoSide (t_made_side K C_CutError C_NoWeb C_NoSide C_NoWishes C_TooGreat Φ_is_row Φ_is_number_of) (as ++ List.replicate (3 - as.length) .u) ms (fin R) Y := by
  rintro as ms R Y ⟨a, b, rfl, m, ts, x, rfl, rfl, hz, r, y⟩
  unfold t_made_side
  refine sx_seq (sx_if ?_)
  walk_at "evs"
  refine ⟨_, rfl, x, rfl, _, rfl, fun h => ?_, fun h => ?_⟩
  · have h1 : isRow x = false := by simpa using h
    refine ⟨fun _ => ?_, nofun⟩
    refine sx_raise (y ?_)
    unfold sideB
    rw [row_no h1]
  · have h1 : isRow x = true := by simpa using h
    obtain ⟨es, he, hx⟩ := row_inv h1
    have sv : Sv ms (.d x) (.list es) ∨ Sv ms (.d x) (.tuple es) := by
      rcases hx with rfl | rfl
      · exact .inl (.d _)
      · exact .inr (.d _)
    have sb : sideB m x = bitsB m es := by
      unfold sideB
      rw [he]
    walk_at "evs"
    refine rc_len ⟨_, es, rfl, sv, ?_⟩
    walk_at "evs"
    refine rr_ne ⟨_, _, .d _, .d _, shaped_int _, shaped_int _, _, rfl, fun h2 => ?_, fun h2 => ?_⟩
    · rw [eqv_int] at h2
      refine sx_raise (y ?_)
      rw [sb]
      unfold bitsB
      rw [decide_eq_false (by simp at h2; omega), Bool.false_and]
    · rw [eqv_int] at h2
      have hm : es.length = m := by simp at h2; omega
      refine sx_of (s_next ?_)
      refine sx_seq (sx_if ?_)
      walk_at "evs"
      refine e_lcRow (js := [2]) (es := es) rfl hx (by simp) (hz es he) (fun k acc ms' => acc = ((es.take k).map (numB 2)).map .bool ∧ ms' = ms) ⟨rfl, rfl⟩ ?_ ?_
      · rintro k e acc ms' hk ⟨rfl, rfl⟩
        refine eg_name ?_
        walk_at "evs"
        refine ⟨fun _ => ?_, nofun⟩
        walk_at "evs"
        refine ⟨_, _, rfl, 2, e, rfl, rfl, ?_⟩
        exact ⟨_, rfl, by rw [take_snoc hk]; simp, rfl⟩
      · rintro acc ms' ⟨rfl, rfl⟩
        walk_at "evs"
        rw [List.take_length]
        refine rc_all ⟨_, _, rfl, .d _, ?_⟩
        walk_at "evs"
        have al : (es.map (numB 2)).all id = es.all (numB 2) := by rw [List.all_map]; rfl
        rw [al]
        refine ⟨fun h3 => ?_, fun h3 => ?_⟩
        · refine sx_raise (y ?_)
          rw [sb]
          unfold bitsB
          rw [show es.all (numB 2) = false by simpa using h3, Bool.and_false]
        · have h4 : es.all (numB 2) = true := by simpa using h3
          have hb : sideB m x = true := by
            rw [sb]
            unfold bitsB
            rw [h4, decide_eq_true hm]
            rfl
          refine sx_of (s_next ?_)
          refine sx_of ?_
          walk_at "evs"
          refine e_lcRow (js := [2]) (es := es) rfl hx (by simp) (hz es he) (fun k acc ms2 => acc = (turnD es).take k ∧ ms2 = ms') ⟨rfl, rfl⟩ ?_ ?_
          · rintro k e acc ms' hk ⟨rfl, rfl⟩
            obtain ⟨i, rfl, _⟩ := num2_inv (List.all_eq_true.mp h4 e (List.mem_of_getElem? hk))
            obtain ⟨f, fs, rfl⟩ : ∃ f fs, es = f :: fs := by
              cases es with
              | nil => simp at hk
              | cons f fs => exact ⟨f, fs, rfl⟩
            obtain ⟨j, rfl, _⟩ := num2_inv (List.all_eq_true.mp h4 f (by simp))
            refine eg_name ?_
            walk_at "evs"
            refine ⟨fun _ => ?_, nofun⟩
            walk_at "evs"
            refine rr_ix ⟨_, _, _, sv, rfl, atI_nat (j := 0) rfl, ?_⟩
            walk_at "evs"
            refine ⟨?_, rfl⟩
            have hk2 : (turnD (.int j :: fs))[k]? = some (.int (Builtin.bitXor i j)) := by
              unfold turnD
              rw [List.getElem?_map, hk]
              rfl
            rw [take_snoc hk2]
          · rintro acc ms' ⟨rfl, rfl⟩
            walk_at "evs"
            have tl : (turnD es).take es.length = turnD es := List.take_of_length_le (by unfold turnD; simp)
            rw [tl]
            refine rc_tuple ⟨_, _, rfl, .inl (.d _), ?_⟩
            exact r hb es he

abbrev cst (ss : List Nat) : List Int := ss.map fun (k : Nat) => (k : Int)
theorem castN (ns : List Nat) : (ns.map fun (k : Nat) => PyData.int k) = (ns.map fun (k : Nat) => (k : Int)).map PyData.int := by rw [List.map_map]; rfl
theorem tN_cst (ss : List Nat) : tN ss = encS (cst ss) := congrArg PyData.tuple (castN ss)
theorem tN_at {ss : List Nat} {p : Nat} (h : p < ss.length) : (ss.map fun (k : Nat) => PyData.int k)[p]? = some (.int (ss.getD p 0 : Nat)) := by
  rw [List.getElem?_map, List.getElem?_eq_getElem h]
  simp [List.getD, h]
/-- the side of the groups' bits -/
def sdv (G C : Nat → Nat) (bs : List Nat) (p : Nat) : Nat := (bs.getD (G p) 0 + C p) % 2
def sdOf (m : Nat) (G C : Nat → Nat) (bs : List Nat) : List Nat := (List.range m).map (sdv G C bs)
theorem turn0 {ss : List Nat} (h0 : ss.getD 0 0 = 0) (h2 : ∀ x ∈ ss, x < 2) : turnD (ss.map fun (k : Nat) => PyData.int k) = ss.map fun (k : Nat) => PyData.int k := by
  cases ss with
  | nil => rfl
  | cons a r =>
    have ha : a = 0 := by simpa using h0
    subst ha
    unfold turnD
    rw [List.map_map]
    refine List.map_congr_left fun x hx => ?_
    show PyData.int (Builtin.bitXor (x : Int) ((0 : Nat) : Int)) = .int x
    rw [xor2 (h2 x hx) (by decide)]
    have := h2 x hx
    congr 1
    omega
theorem side_ok {m : Nat} {ss : List Nat} (hl : ss.length = m) (h2 : ∀ x ∈ ss, x < 2) : sideB m (.list (ss.map fun (k : Nat) => PyData.int k)) = true := by
  show bitsB m (ss.map fun (k : Nat) => PyData.int k) = true
  unfold bitsB
  rw [Bool.and_eq_true]
  refine ⟨by simp [hl], ?_⟩
  rw [List.all_eq_true]
  intro e he
  obtain ⟨k, hk, rfl⟩ := List.mem_map.mp he
  have := h2 k hk
  simp [numB]
  omega
def Φ_side_of_bits : Ph := ph4 fun a b c d ms R => ∃ (m : Nat) (ts : List Tie) (G C : Nat → Nat) (bs : List Nat), a = .d (encW m ts) ∧ b = .d (tN ((List.range m).map G)) ∧ c = .d (tN ((List.range m).map C)) ∧ d = .d (tN bs) ∧ 1 ≤ m ∧ m ≤ 60 ∧ (∀ p, p < m → G p < bs.length) ∧ (∀ p, p < m → C p < 2) ∧ (∀ x ∈ bs, x < 2) ∧ sdv G C bs 0 = 0 ∧
  R (.d (tN (sdOf m G C bs))) ms
theorem len_side_of_bits : ∀ as ms R, Φ_side_of_bits as ms R → as.length = 4 := ph4_len
theorem rd_side_of_bits {K : PySem.W.Frag} {C_CutError C_NoWeb C_NoSide C_NoWishes C_TooGreat : Addr} : ∀ as ms R, Φ_side_of_bits as ms R → S K (t_side_of_bits K C_CutError C_NoWeb C_NoSide C_NoWishes C_TooGreat Φ_made_side) (as ++ List.replicate (6 - as.length) .u) ms (fin R) := by
  rintro as ms R ⟨a, b, c, d, rfl, m, ts, G, C, bs, rfl, rfl, rfl, rfl, m1, m60, hG, hC, hb, h0, r⟩
  have bit : ∀ i, bs.getD i 0 < 2 := fun i => by
    by_cases h : i < bs.length
    · have e : bs.getD i 0 = bs[i] := by simp [List.getD, h]
      rw [e]
      exact hb _ (List.getElem_mem h)
    · have e : bs.getD i 0 = 0 := by simp [List.getD, List.getElem?_eq_none (Nat.le_of_not_lt h)]
      omega
  unfold t_side_of_bits
  refine s_ret (e_callX0 (ea_cons (e_var rfl (ea_cons (e_lcZ (js := [4, 5]) (by simp) (ea_cons (e_var rfl (ea_cons (e_var rfl (ea_nil ⟨_, _, rfl, ?_⟩))))))))))
  refine ⟨by simp; omega, fun i acc ms' => acc = ((List.range i).map (sdv G C bs)).map (fun (k : Nat) => PyData.int k) ∧ ms' = ms, ⟨rfl, rfl⟩, ?_, ?_⟩
  · rintro i e f acc ms' he hf ⟨rfl, rfl⟩
    have hi : i < m := by
      have := (List.getElem?_eq_some_iff.mp he).1
      simpa using this
    have ee : e = .int (G i : Nat) := by
      rw [List.getElem?_map, List.getElem?_map, List.getElem?_range hi] at he
      exact (Option.some.inj he).symm
    have ef : f = .int (C i : Nat) := by
      rw [List.getElem?_map, List.getElem?_map, List.getElem?_range hi] at hf
      exact (Option.some.inj hf).symm
    subst ee ef
    refine eg_tup rfl (egs_cons (eg_name (egs_cons (eg_name (egs_nil ?_)))))
    refine et_yes ⟨fun _ => e_op (e_op (e_var rfl (e_var rfl (rr_ix ⟨_, _, _, .inr (.d _), rfl, atI_nat (tN_at (hG i hi)), ?_⟩)))), nofun⟩
    refine e_var rfl (rr_I0 ⟨_, _, rfl, rfl, ?_⟩)
    rw [xor2 (bit _) (hC i hi)]
    refine ⟨_, rfl, ?_, rfl⟩
    rw [List.range_succ, List.map_append, List.map_append]
    rfl
  · rintro acc ms' ⟨rfl, rfl⟩
    have e0 : min ((((List.range m).map G).map fun (k : Nat) => PyData.int k)).length ((((List.range m).map C).map fun (k : Nat) => PyData.int k)).length = m := by simp
    rw [e0]
    have hl : (sdOf m G C bs).length = m := by simp [sdOf]
    have h2 : ∀ x ∈ sdOf m G C bs, x < 2 := fun x hx => by
      obtain ⟨p, _, rfl⟩ := List.mem_map.mp hx
      exact Nat.mod_lt _ (by decide)
    have hz : (sdOf m G C bs).getD 0 0 = 0 := by
      unfold sdOf
      simp [List.getD, show 0 < m by omega]
      exact h0
    refine ea_nil ⟨_, _, rfl, m, ts, .list ((sdOf m G C bs).map fun (k : Nat) => .int k), rfl, rfl, fun es he => ?_, fun _ es he => ?_, fun h => ?_⟩
    · cases he
      rw [List.length_map]
      omega
    · cases he
      rw [turn0 hz h2]
      exact r
    · rw [side_ok hl h2] at h
      cases h

def Φ__law_cell_at : Ph := ph2 fun a b ms R => ∃ (ns : List Int) (k : Nat), a = .s ns ∧ b = .d (.int k) ∧ ∀ v : Int, R (.d (.int v)) ms
theorem len__law_cell_at : ∀ as ms R, Φ__law_cell_at as ms R → as.length = 2 := ph2_len
theorem rd__law_cell_at {K : PySem.W.Frag} : ∀ as ms R, Φ__law_cell_at as ms R → S K (t__law_cell_at K) (as ++ List.replicate (2 - as.length) .u) ms (fin R) := by
  rintro as ms R ⟨a, b, rfl, ns, k, rfl, rfl, r⟩
  unfold t__law_cell_at
  walk_at "evs"
  refine rc_len ⟨_, _, rfl, .inl (.s ns), ?_⟩
  walk_at "evs"
  refine ⟨fun h => ?_, fun h => ?_⟩
  · walk_at "evs"
    have hk : k < ns.length := by simpa using h
    refine rr_ix ⟨_, _, .int ns[k], .inl (.s ns), rfl, atI_nat (j := k) (by rw [List.getElem?_map, List.getElem?_eq_getElem hk]; rfl), ?_⟩
    exact r _
  · walk_at "evs"
    exact r 0

def Φ__law_stream : Ph := ph2 fun a b ms R => ∃ (c : Int) (n : Nat), a = .d (.int c) ∧ b = .d (.int n) ∧ n ≤ 1000 ∧ ∀ ns : List Int, R (.f (ns.map .int)) ms
theorem len__law_stream : ∀ as ms R, Φ__law_stream as ms R → as.length = 2 := ph2_len
theorem rd__law_stream {K : PySem.W.Frag} : ∀ as ms R, Φ__law_stream as ms R → S K (t__law_stream K) (as ++ List.replicate (8 - as.length) .u) ms (fin R) := by
  rintro as ms R ⟨a, b, rfl, c, n, rfl, rfl, hn, r⟩
  unfold t__law_stream
  refine s_new (e_lst (ea_nil ⟨[], rfl, Nat.zero_le _, _, rfl, ?_⟩))
  walk_at "evs"
  refine s_forR (js := [4]) ?_
  walk_at "evs"
  refine ⟨⟨by omega, by omega⟩, fun i ds' ms' => ∃ (c' : Int) (o : SD) (ns : List Int), ds' = [.d (.int c), .d (.int n), .m ms.length, .d (.int c'), o, .u, .u, .u] ∧ ms' = ms ++ [.l (ns.map .int)] ∧ ns.length = i, ⟨_, .u, [], rfl, rfl, rfl⟩, ?_, ?_⟩
  · rintro i ds' ms' hi ⟨c', o, ns, rfl, rfl, hl⟩
    refine eg_name ?_
    refine s_seq (s_drop ?_)
    refine e_append ?_
    refine e_varm rfl ⟨_, rfl, ?_⟩
    walk_at "evs"
    refine rr_I ⟨_, _, rfl, rfl, by decide, ?_⟩
    refine ⟨_, _, rfl, get1 _ _, by rw [List.length_map]; omega, ?_⟩
    rw [set1]
    walk_at "evs"
    refine rr_I ⟨_, _, rfl, rfl, ⟨by decide, Bd.mono (Bd.of (n := 64) (by decide)) (by decide)⟩, ?_⟩
    exact ⟨_, _, ns ++ [c'.fmod 1000003], rfl, by simp, by simp [hl]⟩
  rintro ds' ms' ⟨c', o, ns, rfl, rfl, hl⟩
  refine s_seq ?_
  walk_at "evs"
  refine ⟨fun _ => ?_, fun _ => ?_⟩
  · walk_at "evs"
    refine ⟨ms, ns.map .int, rfl, rfl, ?_⟩
    show R (if ms.length = ms.length then _ else _) ms
    rw [if_pos rfl]
    exact r ns
  refine s_next ?_
  refine s_new (e_lst (ea_nil ⟨[], rfl, Nat.zero_le _, _, rfl, ?_⟩))
  have n1 : (ms ++ [MD.l (ns.map .int)]).length = ms.length + 1 := by simp
  rw [n1]
  walk_at "evs"
  refine rr_I ⟨_, _, rfl, rfl, by decide, ?_⟩
  walk_at "evs"
  refine rr_I ⟨_, _, rfl, rfl, by decide, ?_⟩
  walk_at "evs"
  refine s_forR (js := [4]) ?_
  walk_at "evs"
  refine ⟨⟨by omega, by omega⟩, fun i ds' ms' => ∃ (x y : Int) (o : SD) (ns2 : List Int), ds' = [.d (.int c), .d (.int n), .m ms.length, .d (.int c'), o, .m (ms.length + 1), .d (.int x), .d (.int y)] ∧ ms' = ms ++ [.l (ns.map .int)] ++ [.l (ns2.map .int)] ∧ ns2.length = i, ⟨_, _, _, [], rfl, rfl, rfl⟩, ?_, ?_⟩
  · rintro i ds' ms' hi ⟨x, y, o, ns2, rfl, rfl, hl2⟩
    refine eg_name ?_
    walk_at "evs"
    refine rr_I ⟨_, _, rfl, rfl, .inr ⟨by decide, by decide⟩, ?_⟩
    walk_at "evs"
    refine rr_I ⟨_, _, rfl, rfl, by decide, ?_⟩
    walk_at "evs"
    refine rr_I ⟨_, _, rfl, rfl, .inr ⟨by decide, by decide⟩, ?_⟩
    walk_at "evs"
    refine rr_I ⟨_, _, rfl, rfl, by decide, ?_⟩
    refine s_drop (e_append ?_)
    refine e_varm rfl ⟨_, rfl, ?_⟩
    walk_at "evs"
    refine rr_I ⟨_, _, rfl, rfl, ⟨by decide, Bd.mono (Bd.of (n := 64) (by decide)) (by decide)⟩, ?_⟩
    refine ⟨_, _, rfl, get2b _ _ _, by rw [List.length_map]; omega, ?_⟩
    rw [set2b]
    exact ⟨_, _, _, ns2 ++ [_], rfl, by simp; rfl, by simp [hl2]⟩
  · rintro ds' ms' ⟨x, y, o, ns2, rfl, rfl, hl2⟩
    walk_at "evs"
    refine ⟨_, ns2.map .int, rfl, n1, ms, ns.map .int, rfl, rfl, ?_⟩
    show R (frzR ms.length _ (if ms.length + 1 = ms.length + 1 then _ else _)) ms
    rw [if_pos rfl]
    exact r ns2

def Φ__law_take : Ph := ph1 fun a ms R => ∃ (k : Nat) (ns : List Int), a = .m k ∧ ms[k]? = some (.l (ns.map .int)) ∧ ∀ (v : Int) (ns' : List Int), R (.d (.int v)) (ms.set k (.l (ns'.map .int)))
theorem len__law_take : ∀ as ms R, Φ__law_take as ms R → as.length = 1 := ph1_len
theorem set_same {α : Type} : ∀ (l : List α) (k : Nat) (x : α), l[k]? = some x → l.set k x = l
  | [], k, x, h => by simp at h
  | a :: r, 0, x, h => by simp at h; simp [h]
  | a :: r, k + 1, x, h => by simp at h; simp [set_same r k x h]
theorem rd__law_take {K : PySem.W.Frag} : ∀ as ms R, Φ__law_take as ms R → S K (t__law_take K) (as ++ List.replicate (1 - as.length) .u) ms (fin R) := by
  rintro as ms R ⟨a, rfl, k, ns, rfl, hk, r⟩
  unfold t__law_take
  walk_at "evs"
  refine rc_len ⟨_, _, rfl, .inl (.m hk), ?_⟩
  walk_at "evs"
  refine rr_eq ⟨_, _, .d _, .d _, shaped_int _, shaped_int _, ?_⟩
  rw [eqv_int, List.length_map]
  refine ⟨_, rfl, fun h => ?_, fun h => ?_⟩
  · walk_at "evs"
    have := r 0 ns
    rw [set_same _ _ _ hk] at this
    exact this
  · have hn : ns ≠ [] := by
      intro z
      subst z
      cases h
    obtain ⟨ps, v, rfl⟩ : ∃ ps v, ns = ps ++ [v] := ⟨ns.dropLast, ns.getLast hn, (List.dropLast_concat_getLast hn).symm⟩
    walk_at "evs"
    refine e_pop ?_
    walk_at "evs"
    refine ⟨k, ps.map .int, .int v, rfl, by rw [hk]; simp, ?_⟩
    exact r _ ps

theorem fmod_bd {a b : Int} (hb : 0 < b) : 0 ≤ a.fmod b ∧ a.fmod b < b := by
  rw [Int.fmod_eq_emod_of_nonneg _ (by omega)]
  exact ⟨Int.emod_nonneg _ (by omega), Int.emod_lt_of_pos _ hb⟩
def Φ__law_reduced : Ph := ph2 fun a b ms R => ∃ i j : Int, a = .d (.int i) ∧ b = .d (.int j) ∧ 0 < j ∧ Bd 8000 j ∧ R (.d (pr (fr i j))) ms
theorem len__law_reduced : ∀ as ms R, Φ__law_reduced as ms R → as.length = 2 := ph2_len
theorem rd__law_reduced {K : PySem.W.Frag} : ∀ as ms R, Φ__law_reduced as ms R → S K (t__law_reduced K) (as ++ List.replicate (4 - as.length) .u) ms (fin R) := by
  rintro as ms R ⟨a, b, rfl, i, j, rfl, rfl, hj, hb, r⟩
  have hg : 0 < Int.gcd i j := Int.gcd_pos_of_ne_zero_right i (by omega)
  have hgb : Bd 8000 (Int.gcd i j : Int) := hb.le (by
    have := Int.gcd_le_natAbs_right i (show j ≠ 0 by omega)
    omega)
  unfold t__law_reduced
  walk_at "evs"
  rw [abs_nat]
  have ej : j = (j.natAbs : Int) := by omega
  refine s_while (fun m ds' ms' => ∃ x y : Nat, ds' = [.d (.int i), .d (.int j), .d (.int x), .d (.int y)] ∧ ms' = ms ∧ Nat.gcd x y = Int.gcd i j ∧ m = y) j.natAbs ⟨i.natAbs, j.natAbs, by rw [← ej]; rfl, rfl, rfl, rfl⟩ ?_
  rintro m ds ms' ⟨x, y, rfl, rfl, hgc, hm⟩
  walk_at "evs"
  refine rr_ne ⟨_, _, .d _, .d _, shaped_int _, shaped_int _, ?_⟩
  rw [eqv_int]
  refine ⟨_, rfl, fun h => ?_, fun h => ?_⟩
  · walk_at "evs"
    have hy : y ≠ 0 := by
      intro z
      subst z
      simp at h
    refine rr_I ⟨_, _, rfl, rfl, by omega, ?_⟩
    walk_at "evs"
    rw [fmod_nat]
    have := Nat.mod_lt x (show 0 < y by omega)
    exact ⟨x % y, by omega, y, x % y, rfl, rfl, by rw [gcd_step]; exact hgc, rfl⟩
  have hy : y = 0 := by
    simp at h
    omega
  subst hy
  rw [Nat.gcd_zero_right] at hgc
  subst hgc
  walk_at "evs"
  refine rr_I ⟨_, _, rfl, rfl, ⟨by omega, hgb⟩, ?_⟩
  walk_at "evs"
  refine rr_I ⟨_, _, rfl, rfl, ⟨by omega, hgb⟩, ?_⟩
  walk_at "evs"
  have e : fr i j = (i.fdiv (Int.gcd i j), j.fdiv (Int.gcd i j)) := if_neg (by omega)
  rw [e] at r
  exact r

def Sm (t : Tie) : Prop := t.2.2.1.natAbs ≤ 1000000000 ∧ t.2.2.2 ≤ 1000
def Φ__law_weight : Ph := ph1 fun a ms R => ∃ v : Int, a = .d (.int v) ∧ ∀ w : Int × Int, Wt w → w.1.natAbs ≤ 1000000000 → w.2 ≤ 1000 → R (.d (pr w)) ms
theorem len__law_weight : ∀ as ms R, Φ__law_weight as ms R → as.length = 1 := ph1_len
theorem wt_fr {i j : Int} (hj : 0 < j) (h1 : i.natAbs ≤ 1000000000) (h2 : j ≤ 1000) : Wt (fr i j) ∧ (fr i j).1.natAbs ≤ 1000000000 ∧ (fr i j).2 ≤ 1000 := by
  have hne : j ≠ 0 := by omega
  have l := fr_le (i := i) hne
  have p := fr_pos (i := i) hne
  exact ⟨⟨Lo.fr hne, Bd.of (by omega), Bd.of (by omega)⟩, by omega, by omega⟩
theorem rd__law_weight {K : PySem.W.Frag} : ∀ as ms R, Φ__law_weight as ms R → S K (t__law_weight K Φ__law_reduced) (as ++ List.replicate (3 - as.length) .u) ms (fin R) := by
  rintro as ms R ⟨a, rfl, v, rfl, r⟩
  have d8 : ∀ {x : Int}, x ≠ 0 → x.natAbs < 2 ^ 64 → CDivX 0 x := fun h0 h => ⟨h0, Bd.mono (Bd.of (n := 64) h) (by decide)⟩
  unfold t__law_weight
  walk_at "evs"
  refine rr_I ⟨_, _, rfl, rfl, by decide, ?_⟩
  walk_at "evs"
  refine rr_I ⟨_, _, rfl, rfl, d8 (by decide) (by decide), ?_⟩
  walk_at "evs"
  refine rr_eq ⟨_, _, .d _, .d _, shaped_int _, shaped_int _, ?_⟩
  rw [eqv_int]
  refine ⟨_, rfl, fun h => ?_, fun h => ?_⟩
  · walk_at "evs"
    exact r (0, 1) ⟨lo01, Bd.of (by decide), Bd.of (by decide)⟩ (by decide) (by decide)
  walk_at "evs"
  generalize hw : v.fmod 8 = way
  generalize hn : v.fdiv 8 = nu
  refine ⟨fun h1 => ?_, fun h1 => ?_⟩
  · walk_at "evs"
    refine rr_I ⟨_, _, rfl, rfl, by decide, ?_⟩
    walk_at "evs"
    have b := fmod_bd (a := nu) (b := 9) (by decide)
    exact r (nu.fmod 9 - 4, 1) ⟨⟨by show (0 : Int) < 1; decide, by show Int.gcd _ 1 = 1; exact Int.gcd_one_right _⟩, Bd.of (by show (nu.fmod 9 - 4).natAbs < _; omega), Bd.of (by show (1 : Int).natAbs < _; decide)⟩ (by show (nu.fmod 9 - 4).natAbs ≤ _; omega) (by show (1 : Int) ≤ 1000; decide)
  walk_at "evs"
  refine ⟨fun h2 => ?_, fun h2 => ?_⟩
  · walk_at "evs"
    refine rr_I ⟨_, _, rfl, rfl, by decide, ?_⟩
    walk_at "evs"
    refine rr_I ⟨_, _, rfl, rfl, d8 (by decide) (by decide), ?_⟩
    walk_at "evs"
    refine rr_I ⟨_, _, rfl, rfl, by decide, ?_⟩
    walk_at "evs"
    have b := fmod_bd (a := nu) (b := 13) (by decide)
    have b2 := fmod_bd (a := nu.fdiv 13) (b := 4) (by decide)
    have f := wt_fr (i := nu.fmod 13 - 6) (j := 1 + (nu.fdiv 13).fmod 4) (by omega) (by omega) (by omega)
    exact ⟨_, _, rfl, _, _, rfl, rfl, by omega, Bd.mono (Bd.of (n := 64) (by omega)) (by decide), r _ f.1 f.2.1 f.2.2⟩
  walk_at "evs"
  refine rr_I ⟨_, _, rfl, rfl, ⟨by decide, by decide, by decide⟩, ?_⟩
  walk_at "evs"
  refine rr_I ⟨_, _, rfl, rfl, d8 (by decide) (by decide), ?_⟩
  walk_at "evs"
  refine rr_I ⟨_, _, rfl, rfl, by decide, ?_⟩
  have e9 : ((10 : Int) ^ (9 : Int).toNat) = 1000000000 := by decide
  rw [e9]
  have b := fmod_bd (a := nu.fdiv 2) (b := 3) (by decide)
  generalize (nu.fdiv 2).fmod 3 = u at *
  refine rr_I0 ⟨_, _, rfl, rfl, ?_⟩
  refine s_mid (fun ds' ms' => ∃ far : Int, ds' = [.d (.int nu), .d (.int way), .d (.int far)] ∧ ms' = ms ∧ far.natAbs ≤ 1000000000) ?_ ?_
  · walk_at "evs"
    refine rr_I ⟨_, _, rfl, rfl, by decide, ?_⟩
    walk_at "evs"
    refine rr_eq ⟨_, _, .d _, .d _, shaped_int _, shaped_int _, ?_⟩
    refine ⟨_, rfl, fun _ => ?_, fun _ => ?_⟩
    · walk_at "evs"
      exact ⟨rfl, by omega⟩
    · walk_at "evs"
      exact ⟨rfl, by omega⟩
  rintro ds' ms' ⟨far, rfl, rfl, hf⟩
  walk_at "evs"
  refine rr_I ⟨_, _, rfl, rfl, d8 (by decide) (by decide), ?_⟩
  walk_at "evs"
  refine rr_I ⟨_, _, rfl, rfl, by decide, ?_⟩
  walk_at "evs"
  have b2 := fmod_bd (a := nu.fdiv 6) (b := 4) (by decide)
  have f := wt_fr (i := far) (j := 1000 - (nu.fdiv 6).fmod 4) (by omega) hf (by omega)
  exact ⟨_, _, rfl, _, _, rfl, rfl, by omega, Bd.mono (Bd.of (n := 64) (by omega)) (by decide), r _ f.1 f.2.1 f.2.2⟩

def Rise (ts : List Tie) : Prop := ts.Pairwise fun a b => a.1 < b.1 ∨ (a.1 = b.1 ∧ a.2.1 < b.2.1)
def Φ__law_web : Ph := ph2 fun a b ms R => ∃ (k : Nat) (ns : List Int) (mo : Nat), a = .m k ∧ b = .d (.int mo) ∧ ms[k]? = some (.l (ns.map .int)) ∧ 1 ≤ mo ∧ mo ≤ 9 ∧
  ∀ (m : Nat) (ts : List Tie) (ns' : List Int), m ≤ mo → WebOk m ts → Rise ts → (∀ t ∈ ts, Sm t) → ts.length ≤ 81 → R (.d (encW m ts)) (ms.set k (.l (ns'.map .int)))
theorem len__law_web : ∀ as ms R, Φ__law_web as ms R → as.length = 2 := ph2_len
theorem rise_snoc {ts : List Tie} {t : Tie} (h : Rise ts) (h2 : ∀ x ∈ ts, x.1 < t.1 ∨ (x.1 = t.1 ∧ x.2.1 < t.2.1)) : Rise (ts ++ [t]) :=
  List.pairwise_append.mpr ⟨h, by simp, fun a ha b hb => by simp at hb; subst hb; exact h2 a ha⟩
theorem rd__law_web {K : PySem.W.Frag} : ∀ as ms R, Φ__law_web as ms R → S K (t__law_web K Φ__law_take Φ__law_weight) (as ++ List.replicate (8 - as.length) .u) ms (fin R) := by
  rintro as ms R ⟨a, b, rfl, k, ns, mo, rfl, rfl, hk, h2, h3, r⟩
  have hkl : k < ms.length := (List.getElem?_eq_some_iff.mp hk).1
  unfold t__law_web
  walk_at "evs"
  refine ⟨_, rfl, k, ns, rfl, hk, fun v ns1 => ?_⟩
  walk_at "evs"
  refine rr_I ⟨_, _, rfl, rfl, by omega, ?_⟩
  walk_at "evs"
  have hv := fmod_bd (a := v) (b := (mo : Int)) (by omega)
  obtain ⟨m, hm⟩ : ∃ m : Nat, (1 : Int) + v.fmod mo = m := ⟨((1 : Int) + v.fmod mo).toNat, by omega⟩
  rw [hm]
  refine ⟨_, rfl, k, ns1, rfl, by rw [List.getElem?_set_self hkl], fun sh ns3 => ?_⟩
  rw [List.set_set]
  walk_at "evs"
  refine rr_I ⟨_, _, rfl, rfl, by decide, ?_⟩
  generalize sh.fmod 6 = share
  refine s_new ?_
  walk_at "evs"
  refine s_forR (js := [5]) ?_
  walk_at "evs"
  have hm9 : m ≤ 9 := by omega
  have hl : (ms.set k (.l (ns3.map .int))).length = ms.length := List.length_set
  rw [hl]
  refine ⟨⟨by omega, by omega⟩, fun i ds' ms' => ∃ (ts : List Tie) (ns4 : List Int) (o o2 o3 : SD), ds' = [.m k, .d (.int mo), .d (.int m), .d (.int share), .m ms.length, o, o2, o3] ∧ ms' = ms.set k (.l (ns4.map .int)) ++ [.l (ts.map encT)] ∧ (∀ t ∈ ts, TieOk m t ∧ Sm t ∧ t.1 < i) ∧ Rise ts ∧ ts.length ≤ 9 * i, ⟨[], ns3, .u, .u, .u, rfl, rfl, by simp, List.Pairwise.nil, by simp⟩, ?_, ?_⟩
  · rintro i ds' ms' hi2 ⟨ts, ns4, o, o2, o3, rfl, rfl, ht, hr, hz⟩
    have hi3 : i < m := by simpa using hi2
    refine eg_name ?_
    refine s_forR2 (js := [6]) ?_
    walk_at "evs"
    refine ⟨⟨by omega, by omega, by omega, by omega⟩, fun j ds' ms' => ∃ (ts : List Tie) (ns4 : List Int) (o2 o3 : SD), ds' = [.m k, .d (.int mo), .d (.int m), .d (.int share), .m ms.length, .d (.int i), o2, o3] ∧ ms' = ms.set k (.l (ns4.map .int)) ++ [.l (ts.map encT)] ∧ (∀ t ∈ ts, TieOk m t ∧ Sm t ∧ (t.1 < i ∨ (t.1 = i ∧ t.2.1 < i + 1 + j))) ∧ Rise ts ∧ ts.length ≤ 9 * i + j, ⟨ts, ns4, o2, o3, rfl, rfl, fun t h => ⟨(ht t h).1, (ht t h).2.1, .inl (ht t h).2.2⟩, hr, by omega⟩, ?_, ?_⟩
    · rintro j ds' ms' hj ⟨ts, ns5, o3, o4, rfl, rfl, ht, hr, hz⟩
      have hj2 : i + 1 + j < m := by omega
      have hkl2 : ∀ x : MD, k < (ms.set k x).length := fun x => by rw [List.length_set]; exact hkl
      refine eg_name ?_
      walk_at "evs"
      refine ⟨_, rfl, k, ns5, rfl, by rw [List.getElem?_append_left (hkl2 _), List.getElem?_set_self hkl], fun z ns6 => ?_⟩
      rw [List.set_append_left _ _ (hkl2 _), List.set_set]
      walk_at "evs"
      refine rr_I ⟨_, _, rfl, rfl, by decide, ?_⟩
      walk_at "evs"
      refine ⟨fun _ => ?_, fun _ => ?_⟩
      · walk_at "evs"
        refine e_append ?_
        walk_at "evs"
        refine rr_I ⟨_, _, rfl, rfl, ⟨by decide, Bd.mono (Bd.of (n := 64) (by decide)) (by decide)⟩, ?_⟩
        walk_at "evs"
        refine ⟨_, rfl, _, rfl, fun w ww w1 w2 => ?_⟩
        walk_at "evs"
        have ln : (ms.set k (.l (ns6.map PyData.int))).length = ms.length := List.length_set
        refine ⟨(show _ = some (MD.l (ts.map encT)) by rw [List.getElem?_append_right (by omega), ln, Nat.sub_self]; rfl), by rw [List.length_map]; omega, ?_⟩
        refine ⟨ts ++ [(i, i + 1 + j, w)], ns6, _, _, rfl, ?_, ?_, ?_, ?_⟩
        · rw [List.set_append_right _ _ (by omega), ln, Nat.sub_self, List.map_append]
          have e : ((i : Int) + 1 + (j : Int)) = ((i + 1 + j : Nat) : Int) := by omega
          show _ ++ [MD.l _] = _
          rw [e]
          rfl
        · intro t h
          rcases List.mem_append.mp h with h | h
          · obtain ⟨h1, h2, h3⟩ := ht t h
            exact ⟨h1, h2, by omega⟩
          · simp at h
            subst h
            exact ⟨⟨by show i < i + 1 + j; omega, hj2, ww⟩, ⟨w1, w2⟩, .inr ⟨rfl, by show i + 1 + j < i + 1 + (j + 1); omega⟩⟩
        · exact rise_snoc hr fun x hx => (ht x hx).2.2
        · rw [List.length_append]
          show ts.length + 1 ≤ _
          omega
      · walk_at "evs"
        refine ⟨ts, ns6, _, _, rfl, rfl, fun t h => ?_, hr, by omega⟩
        obtain ⟨h1, h2, h3⟩ := ht t h
        exact ⟨h1, h2, by omega⟩
    · rintro ds' ms' ⟨ts, ns5, o3, o4, rfl, rfl, ht, hr, hz⟩
      refine ⟨ts, ns5, _, _, _, rfl, rfl, fun t h => ?_, hr, by omega⟩
      obtain ⟨h1, h2, h3⟩ := ht t h
      exact ⟨h1, h2, by omega⟩
  · rintro ds' ms' ⟨ts, ns4, o, o2, o3, rfl, rfl, ht, hr, hz⟩
    have ln : (ms.set k (.l (ns4.map PyData.int))).length = ms.length := List.length_set
    walk_at "evs"
    refine rc_tuple ⟨_, ts.map encT, rfl, .inl (.m (by rw [List.getElem?_append_right (by omega), ln, Nat.sub_self]; rfl)), ?_⟩
    walk_at "evs"
    refine ⟨_, _, rfl, ln, ?_⟩
    exact r m ts ns4 (by omega) ⟨fun t h => (ht t h).1, by simp at hz; omega, by omega, by omega⟩ hr (fun t h => (ht t h).2.1) (by simp at hz; omega)

def Φ__law_plus : Ph := ph2 fun a b ms R => ∃ p q : Int × Int, a = .d (pr p) ∧ b = .d (pr q) ∧ 0 < p.2 ∧ 0 < q.2 ∧ Bd 20000 p.1 ∧ Bd 4000 p.2 ∧ Bd 20000 q.1 ∧ Bd 4000 q.2 ∧ R (.d (pr (pl p q))) ms
theorem len__law_plus : ∀ as ms R, Φ__law_plus as ms R → as.length = 2 := ph2_len
theorem rd__law_plus {K : PySem.W.Frag} : ∀ as ms R, Φ__law_plus as ms R → S K (t__law_plus K Φ__law_reduced) (as ++ List.replicate (2 - as.length) .u) ms (fin R) := by
  rintro as ms R ⟨a, b, rfl, p, q, rfl, rfl, hp, hq, b1, b2, b3, b4, r⟩
  have up : ∀ {x : Int}, Bd 20000 x → Bd 100000 x := fun h => h.mono (by decide)
  have uq : ∀ {x : Int}, Bd 4000 x → Bd 100000 x := fun h => h.mono (by decide)
  unfold t__law_plus
  walk_at "evs"
  refine rr_I ⟨_, _, rfl, rfl, ⟨up b1, uq b4⟩, ?_⟩
  walk_at "evs"
  refine rr_I ⟨_, _, rfl, rfl, ⟨up b3, uq b2⟩, ?_⟩
  walk_at "evs"
  refine rr_I ⟨_, _, rfl, rfl, ⟨uq b2, uq b4⟩, ?_⟩
  walk_at "evs"
  exact ⟨_, _, rfl, _, _, rfl, rfl, Int.mul_pos hp hq, (b2.mul b4).mono (by decide), r⟩

def Var (t : Tie) (x : PyData) : Prop := ∃ es, (x = .tuple es ∨ x = .list es) ∧ (es = [.int t.1, .int t.2.1, pr t.2.2] ∨ es = [.int t.2.1, .int t.1, pr t.2.2])
theorem var_row {t : Tie} {x : PyData} (h : Var t x) : ∃ es, rowOf x = some es ∧ (es = [.int t.1, .int t.2.1, pr t.2.2] ∨ es = [.int t.2.1, .int t.1, pr t.2.2]) := by
  obtain ⟨es, rfl | rfl, h⟩ := h
  · exact ⟨es, rfl, h⟩
  · exact ⟨es, rfl, h⟩
theorem wt_tie {t : Tie} (hw : Wt t.2.2) (hs : Sm t) : wtB (pr t.2.2) = true := by
  unfold wtB
  have h1 : isFrac (pr t.2.2) = true := by
    have := hw.lo.pos
    show (decide (1 ≤ t.2.2.2) && decide (Int.gcd t.2.2.1 t.2.2.2 = 1)) = true
    rw [decide_eq_true (by omega), decide_eq_true hw.lo.low]
    rfl
  rw [h1]
  obtain ⟨s1, s2⟩ := hs
  simp [s2]
  omega
theorem tie_var {m : Nat} {t : Tie} {x : PyData} (h : Var t x) (ht : TieOk m t) (hs : Sm t) : tieOf m x = encT t := by
  obtain ⟨es, hr, he⟩ := var_row h
  have w := wt_tie ht.w hs
  have h1 := ht.lt
  have h2 := ht.lm
  unfold tieOf
  rw [hr]
  rcases he with rfl | rfl
  · show tie3 m (.int t.1) (.int t.2.1) (pr t.2.2) = _
    unfold tie3
    have u : unlB m (.int t.1) (.int t.2.1) = true := by
      unfold unlB
      simp [numB, eqv_int]
      omega
    rw [u, w]
    show PyData.tuple [.int (if (t.2.1 : Int) < t.1 then t.2.1 else t.1), .int (if (t.2.1 : Int) > t.1 then t.2.1 else t.1), pr t.2.2] = _
    rw [if_neg (by omega), if_pos (by omega)]
  · show tie3 m (.int t.2.1) (.int t.1) (pr t.2.2) = _
    unfold tie3
    have u : unlB m (.int t.2.1) (.int t.1) = true := by
      unfold unlB
      simp [numB, eqv_int]
      omega
    rw [u, w]
    show PyData.tuple [.int (if (t.1 : Int) < t.2.1 then t.1 else t.2.1), .int (if (t.1 : Int) > t.2.1 then t.1 else t.2.1), pr t.2.2] = _
    rw [if_pos (by omega), if_neg (by omega)]
theorem ne_nil (es : List PyData) : PyData.eqv (.list es) (.list []) = es.isEmpty := by
  cases es <;> simp [PyData.eqv, PyData.eqvAll]
theorem shp_encT (t : Tie) : Shp 2 (encT t) := Shp.tup fun e he => by
  simp only [List.mem_cons, List.not_mem_nil, or_false] at he
  rcases he with rfl | rfl | rfl
  · exact (Shp.int _).mono (by decide)
  · exact (Shp.int _).mono (by decide)
  · exact Shp.pr _
theorem shp_ties (ts : List Tie) : Shp 3 (.list (ts.map encT)) := Shp.lst fun e he => by
  obtain ⟨t, _, rfl⟩ := List.mem_map.mp he
  exact shp_encT t

theorem lt_rise {a b : Tie} (h : a.1 < b.1 ∨ (a.1 = b.1 ∧ a.2.1 < b.2.1)) : PySem.W.dataLe false id (encT a) (encT b) = true ∧ PySem.W.dataLe false id (encT b) (encT a) = false := by
  have al : ∀ p q : Int × Int, PySem.W.alike (pr p) (pr q) = true := fun p q => by simp [PySem.W.alike, PySem.W.alikeAll]
  constructor
  · show (!PySem.W.dataLt (encT b) (encT a)) = true
    rw [tri_lt _ _ _ _ _ _ (al _ _)]
    rcases h with h | ⟨h1, h2⟩
    · rw [if_neg (by omega), decide_eq_false (by omega)]; rfl
    · rw [if_pos (by omega), if_neg (by omega), decide_eq_false (by omega)]; rfl
  · show (!PySem.W.dataLt (encT a) (encT b)) = false
    rw [tri_lt _ _ _ _ _ _ (al _ _)]
    rcases h with h | ⟨h1, h2⟩
    · rw [if_neg (by omega), decide_eq_true (by omega)]; rfl
    · rw [if_pos (by omega), if_neg (by omega), decide_eq_true (by omega)]; rfl
theorem sort_rise {ts : List Tie} {l : List PyData} (hr : Rise ts) (hp : l.Perm (ts.map encT)) : sortD l = ts.map encT := by
  refine sort_strict ?_ hp
  rw [List.pairwise_map]
  exact hr.imp fun h => lt_rise h
theorem dup_rise : ∀ {ts : List Tie}, Rise ts → dupB (ts.map encT) = false := fun {ts} hr => by
  unfold dupB
  rw [List.any_eq_false]
  intro p hp
  obtain ⟨l, hl⟩ := List.mem_iff_getElem?.mp hp
  rw [List.getElem?_zip_eq_some] at hl
  obtain ⟨h1, h2⟩ := hl
  rw [List.getElem?_drop, List.getElem?_map] at h2
  rw [List.getElem?_map] at h1
  cases q1 : ts[l]? with
  | none => rw [q1] at h1; cases h1
  | some a =>
    cases q2 : ts[1 + l]? with
    | none => rw [q2] at h2; cases h2
    | some b =>
      rw [q1] at h1
      rw [q2] at h2
      obtain ⟨p1, p2⟩ := p
      have e1 : encT a = p1 := Option.some.inj h1
      have e2 : encT b = p2 := Option.some.inj h2
      subst e1 e2
      obtain ⟨l1, e1⟩ := List.getElem?_eq_some_iff.mp q1
      obtain ⟨l2, e2⟩ := List.getElem?_eq_some_iff.mp q2
      have := List.pairwise_iff_getElem.mp hr l (1 + l) l1 l2 (by omega)
      rw [e1, e2] at this
      show ¬ PyData.eqv (.tuple [.int a.1, .int a.2.1]) (.tuple [.int b.1, .int b.2.1]) = true
      simp [PyData.eqv, PyData.eqvAll]
      omega
theorem told_vars {m : Nat} {ps : List (Tie × PyData)} (hw : ∀ p ∈ ps, TieOk m p.1 ∧ Sm p.1) (hv : ∀ p ∈ ps, Var p.1 p.2) : (ps.map Prod.snd).map (tieOf m) = (ps.map Prod.fst).map encT := by
  rw [List.map_map, List.map_map]
  apply List.map_congr_left
  intro p hp
  exact tie_var (hv p hp) (hw p hp).1 (hw p hp).2
theorem all_isT (ts : List Tie) : (ts.map encT).all isT = true := by
  rw [List.all_eq_true]
  intro x hx
  obtain ⟨t, _, rfl⟩ := List.mem_map.mp hx
  rfl
theorem web_ok {m : Nat} {ts : List Tie} {ps : List (Tie × PyData)} {x : PyData} (hw : WebOk m ts) (hr : Rise ts) (hs : ∀ t ∈ ts, Sm t) (hp : (ps.map Prod.fst).Perm ts) (hv : ∀ p ∈ ps, Var p.1 p.2) (hx : rowOf x = some (ps.map Prod.snd)) :
    okW (.int m) x = true ∧ sortD ((ps.map Prod.snd).map (tieOf m)) = ts.map encT := by
  have mem : ∀ p ∈ ps, p.1 ∈ ts := fun p h => hp.mem_iff.mp (List.mem_map.mpr ⟨p, h, rfl⟩)
  have e := told_vars (fun p h => ⟨hw.all _ (mem p h), hs _ (mem p h)⟩) hv
  have so : sortD ((ps.map Prod.snd).map (tieOf m)) = ts.map encT := by
    rw [e]
    exact sort_rise hr (hp.map encT)
  refine ⟨?_, so⟩
  unfold okW
  rw [hx]
  show ((decide (1 ≤ (m : Int)) && decide ((m : Int) ≤ 60)) && (decide ((ps.map Prod.snd).length ≤ 170) && webR m (ps.map Prod.snd))) = true
  unfold webR
  rw [so, dup_rise hr, e, all_isT]
  have h1 := hw.m1
  have h2 := hw.m60
  have h3 := hw.len
  have h4 := hp.length_eq
  rw [List.length_map] at h4
  rw [List.length_map, decide_eq_true (by omega), decide_eq_true (by omega), decide_eq_true (by omega)]
  rfl
/-- as they stand -/
theorem web_plain {m : Nat} {ts : List Tie} {x : PyData} (hw : WebOk m ts) (hr : Rise ts) (hs : ∀ t ∈ ts, Sm t) (hx : rowOf x = some (ts.map encT)) :
    okW (.int m) x = true ∧ sortD ((ts.map encT).map (tieOf m)) = ts.map encT := by
  have e : (ts.map fun t => (t, encT t)).map Prod.snd = ts.map encT := by rw [List.map_map]; rfl
  have e2 : (ts.map fun t => (t, encT t)).map Prod.fst = ts := by rw [List.map_map]; exact List.map_id _
  have := web_ok (ps := ts.map fun t => (t, encT t)) hw hr hs (by rw [e2]) (fun p hp => by
    obtain ⟨t, _, rfl⟩ := List.mem_map.mp hp
    exact ⟨_, .inl rfl, .inl rfl⟩) (by rw [e]; exact hx)
  rw [e] at this
  exact this
/-- a thing that is no tie among them -/
theorem bad_row {m : Int} {es : List PyData} {b : PyData} {x : PyData} (hx : rowOf x = some es) (hb : b ∈ es) (h : tieOf m b = .none) : okW (.int m) x = false := by
  unfold okW
  rw [hx]
  show (_ && (_ && webR m es)) = false
  have : (es.map (tieOf m)).all isT = false := by
    rw [Bool.eq_false_iff]
    intro z
    have := List.all_eq_true.mp z _ (List.mem_map.mpr ⟨b, hb, rfl⟩)
    rw [h] at this
    cases this
  unfold webR
  rw [this, Bool.false_and, Bool.and_false, Bool.and_false]
/-! one pair twice -/
def pairOf : PyData → Int × Int
  | .tuple (.int a :: .int b :: _) => (a, b)
  | _ => (0, 0)
def ltP (a b : Int × Int) : Prop := a.1 < b.1 ∨ (a.1 = b.1 ∧ a.2 < b.2)
theorem sorted_pairs : ∀ (ss : List PyData), (∀ e ∈ ss, ∃ i j t b : Int, e = .tuple [.int i, .int j, .tuple [.int t, .int b]]) → ss.Pairwise (fun a b => PySem.W.dataLe false id a b = true) → dupB ss = false → (ss.map pairOf).Pairwise ltP
  | [], _, _, _ => .nil
  | [a], _, _, _ => by simp
  | a :: b :: r, sh, pw, nd => by
    have nd2 : dupB (b :: r) = false := by
      unfold dupB at nd ⊢
      have : (List.zip (a :: b :: r) ((a :: b :: r).drop 1)) = (a, b) :: List.zip (b :: r) ((b :: r).drop 1) := rfl
      rw [this, List.any_cons, Bool.or_eq_false_iff] at nd
      exact nd.2
    have ih := sorted_pairs (b :: r) (fun e he => sh e (by simp [he])) (List.pairwise_cons.mp pw).2 nd2
    have hab : ltP (pairOf a) (pairOf b) := by
      obtain ⟨i, j, t, u, rfl⟩ := sh a (by simp)
      obtain ⟨i', j', t', u', rfl⟩ := sh b (by simp)
      have h1 := (List.pairwise_cons.mp pw).1 (.tuple [.int i', .int j', .tuple [.int t', .int u']]) (by simp)
      have h1' : (!PySem.W.dataLt (.tuple [.int i', .int j', .tuple [.int t', .int u']]) (.tuple [.int i, .int j, .tuple [.int t, .int u]])) = true := h1
      rw [tri_lt _ _ _ _ _ _ (by simp [PySem.W.alike, PySem.W.alikeAll])] at h1'
      have h2 : PyData.eqv (.tuple [.int i, .int j]) (.tuple [.int i', .int j']) = false := by
        unfold dupB at nd
        rw [show (List.zip (PyData.tuple [.int i, .int j, .tuple [.int t, .int u]] :: .tuple [.int i', .int j', .tuple [.int t', .int u']] :: r) ((PyData.tuple [.int i, .int j, .tuple [.int t, .int u]] :: .tuple [.int i', .int j', .tuple [.int t', .int u']] :: r).drop 1)) = (PyData.tuple [.int i, .int j, .tuple [.int t, .int u]], .tuple [.int i', .int j', .tuple [.int t', .int u']]) :: List.zip (PyData.tuple [.int i', .int j', .tuple [.int t', .int u']] :: r) ((PyData.tuple [.int i', .int j', .tuple [.int t', .int u']] :: r).drop 1) from rfl, List.any_cons, Bool.or_eq_false_iff] at nd
        exact nd.1
      simp [PyData.eqv, PyData.eqvAll] at h2
      show i < i' ∨ (i = i' ∧ j < j')
      by_cases e1 : i' = i
      · rw [if_pos e1] at h1'
        by_cases e2 : j' = j
        · exact absurd e2.symm (h2 e1.symm)
        · rw [if_neg e2] at h1'
          simp at h1'
          omega
      · rw [if_neg e1] at h1'
        simp at h1'
        omega
    rw [List.map_cons]
    refine List.pairwise_cons.mpr ⟨fun x hx => ?_, ih⟩
    rcases List.mem_cons.mp hx with rfl | hx
    · exact hab
    · have := (List.pairwise_cons.mp ih).1 x hx
      unfold ltP at *
      omega
theorem twice_row {m : Nat} {es : List PyData} {x : PyData} (hx : rowOf x = some es) (h : ¬ ((es.map (tieOf m)).map pairOf).Nodup) : okW (.int m) x = false := by
  unfold okW
  rw [hx]
  show (_ && (_ && webR m es)) = false
  have : webR m es = false := by
    unfold webR
    cases ha : (es.map (tieOf m)).all isT with
    | false => rfl
    | true =>
      rw [Bool.true_and]
      obtain ⟨_, _, _, sh⟩ := told_alike ha
      cases hd : dupB (sortD (es.map (tieOf m))) with
      | true => rfl
      | false =>
        exfalso
        have pw := sorted_pairs _ (fun e he => sh e (List.mem_mergeSort.mp he)) (PySem.W.sort_pairwise totalD _) hd
        have nd : ((sortD (es.map (tieOf m))).map pairOf).Nodup := pw.imp fun h e => by
          subst e
          unfold ltP at h
          omega
        exact h (((List.mergeSort_perm (es.map (tieOf m)) _).map pairOf).nodup_iff.mp nd)
  rw [this, Bool.and_false, Bool.and_false]

/-- what a thing tells, if it tells a tie -/
theorem tie_told {k : Nat} {x : PyData} (h : isT (tieOf k x) = true) : ∃ t : Tie, tieOf k x = encT t ∧ TieOk k t ∧ Sm t := by
  unfold tieOf at h ⊢
  split at h
  · rename_i a b w hr
    unfold tie3 at h ⊢
    by_cases c : (unlB k a b && wtB w) = true
    · rw [if_pos c] at h ⊢
      rw [Bool.and_eq_true] at c
      obtain ⟨i, j, rfl, rfl⟩ := unl_inv c.1
      obtain ⟨hu, hw⟩ := c
      have hf : isFrac w = true := by
        unfold wtB at hw
        rw [Bool.and_eq_true] at hw
        exact hw.1
      obtain ⟨t, u, rfl⟩ := fracI hf
      unfold wtB at hw
      rw [hf, Bool.true_and] at hw
      simp only [Bool.and_eq_true, decide_eq_true_eq] at hw
      unfold unlB at hu
      simp [numB, eqv_int] at hu
      have hl : 1 ≤ u ∧ Int.gcd t u = 1 := by
        unfold isFrac at hf
        simp only [Bool.and_eq_true, decide_eq_true_eq] at hf
        exact hf
      refine ⟨((min i j).toNat, (max i j).toNat, (t, u)), ?_, ⟨?_, ?_, ⟨⟨by show 0 < u; omega, hl.2⟩, Bd.of (by show t.natAbs < _; omega), Bd.of (by show u.natAbs < _; omega)⟩⟩, by show t.natAbs ≤ _; omega, by show u ≤ _; omega⟩
      · show PyData.tuple [.int (if j < i then j else i), .int (if j > i then j else i), _] = PyData.tuple [.int ((min i j).toNat : Int), .int ((max i j).toNat : Int), .tuple [.int t, .int u]]
        have e1 : (if j < i then j else i) = ((min i j).toNat : Int) := by split <;> omega
        have e2 : (if j > i then j else i) = ((max i j).toNat : Int) := by split <;> omega
        rw [e1, e2]
      · show (min i j).toNat < (max i j).toNat
        omega
      · show (max i j).toNat < k
        omega
    · rw [if_neg c] at h
      cases h
  · cases h
/-- what made_web takes is a web -/
theorem okW_web {m : Int} {x : PyData} {es : List PyData} (hx : rowOf x = some es) (h : okW (.int m) x = true) : ∃ (k : Nat) (ts : List Tie), m = k ∧ sortD (es.map (tieOf m)) = ts.map encT ∧ WebOk k ts ∧ Rise ts ∧ ∀ t ∈ ts, Sm t := by
  unfold okW at h
  rw [hx] at h
  simp only [Bool.and_eq_true, decide_eq_true_eq] at h
  obtain ⟨⟨m1, m60⟩, l170, hw⟩ := h
  obtain ⟨k, rfl⟩ := Int.eq_ofNat_of_zero_le (show 0 ≤ m by omega)
  unfold webR at hw
  rw [Bool.and_eq_true] at hw
  obtain ⟨ha, hd⟩ := hw
  have hd : dupB (sortD (es.map (tieOf k))) = false := by simpa using hd
  have mem : ∀ e ∈ sortD (es.map (tieOf k)), ∃ t : Tie, e = encT t ∧ TieOk k t ∧ Sm t := fun e he => by
    have h1 := List.mem_mergeSort.mp he
    obtain ⟨y, hy, rfl⟩ := List.mem_map.mp h1
    exact tie_told (List.all_eq_true.mp ha _ h1)
  have len : (sortD (es.map (tieOf k))).length ≤ 170 := by
    have := (List.mergeSort_perm (es.map (tieOf k)) (PySem.W.dataLe false id)).length_eq
    show (List.mergeSort _ _).length ≤ 170
    rw [this, List.length_map]
    omega
  have pw : List.Pairwise ltP ((sortD (es.map (tieOf k))).map pairOf) := sorted_pairs _ (fun e he => by
    obtain ⟨t, rfl, _⟩ := mem e he
    exact ⟨_, _, _, _, rfl⟩) (PySem.W.sort_pairwise totalD _) hd
  generalize sortD (es.map (tieOf k)) = ss at *
  have split : ∀ l : List PyData, (∀ e ∈ l, ∃ t : Tie, e = encT t ∧ TieOk k t ∧ Sm t) → ∃ ts : List Tie, l = ts.map encT ∧ ∀ t ∈ ts, TieOk k t ∧ Sm t := by
    intro l
    induction l with
    | nil => intro _; exact ⟨[], rfl, nofun⟩
    | cons e r ih =>
      intro z
      obtain ⟨t, rfl, ok⟩ := z e (by simp)
      obtain ⟨ts, rfl, oks⟩ := ih fun y hy => z y (by simp [hy])
      exact ⟨t :: ts, rfl, fun y hy => by
        rcases List.mem_cons.mp hy with rfl | hy
        · exact ok
        · exact oks y hy⟩
  obtain ⟨ts, rfl, ok⟩ := split ss mem
  refine ⟨k, ts, rfl, rfl, ⟨fun t ht => (ok t ht).1, by simpa using len, by omega, by omega⟩, ?_, fun t ht => (ok t ht).2⟩
  rw [List.map_map, List.pairwise_map] at pw
  refine pw.imp fun {a b} q => ?_
  have q : (a.1 : Int) < b.1 ∨ ((a.1 : Int) = b.1 ∧ (a.2.1 : Int) < b.2.1) := q
  omega

/-! ### groups numbered by their first points -/
structure Can (m : Nat) (fs gs cs : List Nat) : Prop where
  lg : gs.length = m
  lc : cs.length = m
  bit : ∀ c ∈ cs, c < 2
  rise : fs.Pairwise (· < ·)
  flt : ∀ f ∈ fs, f < m
  fst : ∀ (g f : Nat), fs[g]? = some f → gs.getD f 0 = g ∧ cs.getD f 0 = 0
  at_ : ∀ p, p < m → ∃ f, fs[gs.getD p 0]? = some f ∧ f ≤ p
theorem rise_eq : ∀ {l k : List Nat}, l.Pairwise (· < ·) → k.Pairwise (· < ·) → (∀ x, x ∈ l ↔ x ∈ k) → l = k
  | [], [], _, _, _ => rfl
  | [], y :: r, _, _, h => by have := (h y).mpr (by simp); cases this
  | x :: r, [], _, _, h => by have := (h x).mp (by simp); cases this
  | x :: r, y :: s, hl, hk, h => by
    rw [List.pairwise_cons] at hl hk
    have e : x = y := by
      have h1 := (h x).mp (by simp)
      have h2 := (h y).mpr (by simp)
      rcases List.mem_cons.mp h1 with z | z
      · exact z
      · rcases List.mem_cons.mp h2 with w | w
        · exact w.symm
        · have a := hl.1 y w
          have b := hk.1 x z
          omega
    subst e
    congr 1
    refine rise_eq hl.2 hk.2 fun z => ⟨fun hz => ?_, fun hz => ?_⟩
    · rcases List.mem_cons.mp ((h z).mp (List.mem_cons_of_mem _ hz)) with w | w
      · have := hl.1 z hz
        omega
      · exact w
    · rcases List.mem_cons.mp ((h z).mpr (List.mem_cons_of_mem _ hz)) with w | w
      · have := hk.1 z hz
        omega
      · exact w
section
variable {m : Nat} {js : List Jn} {fs gs cs fs' gs' cs' : List Nat}
theorem Can.first (a : Can m fs gs cs) (p : Nat) : p ∈ fs ↔ p < m ∧ ∀ q, q < p → gs.getD q 0 ≠ gs.getD p 0 := by
  constructor
  · intro h
    obtain ⟨g, hg, e⟩ := List.getElem_of_mem h
    have eg : fs[g]? = some p := by rw [List.getElem?_eq_getElem hg, e]
    have pm := a.flt p h
    refine ⟨pm, fun q hq z => ?_⟩
    obtain ⟨f, h1, h2⟩ := a.at_ q (by omega)
    rw [z, (a.fst g p eg).1, eg] at h1
    cases h1
    omega
  · rintro ⟨hp, h⟩
    obtain ⟨f, h1, h2⟩ := a.at_ p hp
    have h3 := (a.fst _ f h1).1
    by_cases hf : f < p
    · exact absurd h3 (h f hf)
    · have : f = p := by omega
      subst this
      exact List.mem_of_getElem? h1
theorem getD_ext {l k : List Nat} (hl : l.length = m) (hk : k.length = m) (h : ∀ p, p < m → l.getD p 0 = k.getD p 0) : l = k := by
  refine List.ext_getElem (by omega) fun i h1 h2 => ?_
  have := h i (by omega)
  simpa [List.getD, h1, h2] using this
/-- numbered so, the groups that the wishes make are told by the wishes -/
theorem Can.uniq (a : Can m fs gs cs) (ga : GrOk m js gs cs) (b : Can m fs' gs' cs') (gb : GrOk m js gs' cs') : gs = gs' ∧ cs = cs' := by
  have part : ∀ p q, p < m → q < m → (gs.getD p 0 = gs.getD q 0 ↔ gs'.getD p 0 = gs'.getD q 0) := fun p q hp hq => ⟨ga.part gb hp hq, gb.part ga hp hq⟩
  have ef : fs = fs' := rise_eq a.rise b.rise fun p => by
    rw [a.first, b.first]
    constructor
    · rintro ⟨hp, h⟩
      exact ⟨hp, fun q hq z => h q hq ((part q p (by omega) hp).mpr z)⟩
    · rintro ⟨hp, h⟩
      exact ⟨hp, fun q hq z => h q hq ((part q p (by omega) hp).mp z)⟩
  subst ef
  have eg : ∀ p, p < m → gs.getD p 0 = gs'.getD p 0 := fun p hp => by
    obtain ⟨f, h1, h2⟩ := a.at_ p hp
    have h3 := (a.fst _ f h1).1
    have h4 := (b.fst _ f h1).1
    have h5 := (part f p (by omega) hp).mp h3
    omega
  refine ⟨getD_ext a.lg b.lg eg, getD_ext a.lc b.lc fun p hp => ?_⟩
  obtain ⟨f, h1, h2⟩ := a.at_ p hp
  have h3 := a.fst _ f h1
  have h4 := b.fst _ f h1
  have h5 := ga.mark gb (i := p) (j := f) hp (by omega) h3.1.symm
  rw [h3.2, h4.2] at h5
  have h6 := bit_at a.bit p
  have h7 := bit_at b.bit p
  omega
theorem Can.fl (a : Can m fs gs cs) : fs.length ≤ m := by
  rcases rise_len (m := m) (a := 0) a.rise (fun x hx => ⟨Nat.zero_le _, a.flt x hx⟩) with z | z
  · omega
  · subst z; exact Nat.zero_le _
theorem Can.glt (a : Can m fs gs cs) {p : Nat} (hp : p < m) : gs.getD p 0 < fs.length := by
  obtain ⟨f, h1, _⟩ := a.at_ p hp
  exact (List.getElem?_eq_some_iff.mp h1).1
theorem Can.zero (a : Can m fs gs cs) (h1 : 1 ≤ m) : gs.getD 0 0 = 0 ∧ cs.getD 0 0 = 0 := by
  obtain ⟨f, h2, h3⟩ := a.at_ 0 (by omega)
  have : f = 0 := by omega
  subst this
  have h4 := a.fst _ _ h2
  have hl := (List.getElem?_eq_some_iff.mp h2).1
  have e0 : fs[0]? = some (fs[0]'(by omega)) := List.getElem?_eq_getElem _
  have m0 : (0 : Nat) ∈ fs := List.mem_of_getElem? h2
  have : ∀ (l : List Nat), l.Pairwise (· < ·) → 0 ∈ l → l[0]? = some 0 := fun l hl hm => by
    cases l with
    | nil => cases hm
    | cons x r =>
      rw [List.pairwise_cons] at hl
      rcases List.mem_cons.mp hm with z | z
      · rw [← z]; rfl
      · have := hl.1 0 z
        omega
  have h6 := a.fst 0 0 (this fs a.rise m0)
  exact h6
theorem SOk.can {rs : List Row} {G C : Nat → Nat} (s : SOk m js fs rs) (hall : ∀ p, p < m → ∃ w, ((G p, p, C p, w) : Row) ∈ rs) : Can m fs ((List.range m).map G) ((List.range m).map C) := by
  have gd : ∀ (F : Nat → Nat) i, i < m → ((List.range m).map F).getD i 0 = F i := fun F i hi => by
    simp [List.getD, hi]
  refine ⟨by simp, by simp, fun c hc => ?_, s.rise, fun f hf => ?_, fun g f h => ?_, fun p hp => ?_⟩
  · obtain ⟨p, hp, rfl⟩ := List.mem_map.mp hc
    obtain ⟨w, rw_⟩ := hall p (List.mem_range.mp hp)
    obtain ⟨f, _, h2, _⟩ := s.ok _ rw_
    exact h2.bit
  · obtain ⟨g, hg, e⟩ := List.getElem_of_mem hf
    exact s.lt _ (s.fst g f (by rw [List.getElem?_eq_getElem hg, e]))
  · have h1 := s.fst g f h
    have fm : f < m := s.lt _ h1
    obtain ⟨w, h2⟩ := hall f fm
    have h3 := row_inj s h2 h1 rfl
    rw [gd G f fm, gd C f fm]
    exact ⟨congrArg (fun r : Row => r.1) h3, congrArg (fun r : Row => r.2.2.1) h3⟩
  · obtain ⟨w, h2⟩ := hall p hp
    obtain ⟨f, h3, _, h4⟩ := s.ok _ h2
    rw [gd G p hp]
    exact ⟨f, h3, h4⟩
end
/-! ### the ties between groups -/
abbrev Pr := Nat × Nat
abbrev GA := List (Pr × List (Int × Int))
def kyP (p : Pr) : List Key := [.inl (p.1 : Int), .inl (p.2 : Int)]
theorem kyP_inj {p q : Pr} (h : kyP p = kyP q) : p = q := by
  unfold kyP at h
  injection h with h1 h2
  injection h2 with h2 _
  injection h1 with h1
  injection h2 with h2
  exact Prod.ext (by omega) (by omega)
def addA (k : Pr) (f : Int × Int) : GA → GA
  | [] => [(k, [f])]
  | e :: r => if e.1 = k then (e.1, e.2 ++ [f]) :: r else e :: addA k f r
def getA (k : Pr) : GA → List (Int × Int)
  | [] => []
  | e :: r => if e.1 = k then e.2 else getA k r
def imgP (A : GA) : List (List Key × List PyData) := A.map fun e => (kyP e.1, e.2.map pr)
def imgL (A : GA) : List (List Key × PyData) := A.map fun e => (kyP e.1, pr (sumF e.2))
theorem imgP_add (k : Pr) (f : Int × Int) : ∀ A : GA, addT (kyP k) (pr f) (imgP A) = imgP (addA k f A)
  | [] => rfl
  | e :: r => by
    have ih := imgP_add k f r
    show (if kyP e.1 = kyP k then (kyP e.1, e.2.map pr ++ [pr f]) :: imgP r else (kyP e.1, e.2.map pr) :: addT (kyP k) (pr f) (imgP r)) = imgP (if e.1 = k then (e.1, e.2 ++ [f]) :: r else e :: addA k f r)
    by_cases h : e.1 = k
    · rw [if_pos h, if_pos (by rw [h])]
      show _ = (kyP e.1, (e.2 ++ [f]).map pr) :: imgP r
      rw [List.map_append]
      rfl
    · rw [if_neg h, if_neg fun z => h (kyP_inj z), ih]
      rfl
theorem imgL_get (k : Pr) : ∀ A : GA, (valT (imgL A) (kyP k)).getD (pr (0, 1)) = pr (sumF (getA k A))
  | [] => rfl
  | e :: r => by
    have ih := imgL_get k r
    unfold imgL valT at ih ⊢
    rw [List.map_cons, List.find?_cons]
    by_cases h : e.1 = k
    · have : decide (kyP e.1 = kyP k) = true := decide_eq_true (by rw [h])
      rw [this]
      show pr (sumF e.2) = pr (sumF (if e.1 = k then e.2 else getA k r))
      rw [if_pos h]
    · have : decide (kyP e.1 = kyP k) = false := decide_eq_false fun z => h (kyP_inj z)
      rw [this]
      show _ = pr (sumF (if e.1 = k then e.2 else getA k r))
      rw [if_neg h]
      exact ih
theorem mem_addA {k : Pr} {f : Int × Int} : ∀ {A : GA} {e : Pr × List (Int × Int)}, e ∈ addA k f A → e ∈ A ∨ e = (k, getA k A ++ [f])
  | [], e, h => by
    have : e = (k, [f]) := by simpa [addA] using h
    exact .inr this
  | a :: r, e, h => by
    unfold addA at h
    unfold getA
    by_cases q : a.1 = k
    · rw [if_pos q] at h ⊢
      rcases List.mem_cons.mp h with z | z
      · subst q
        exact .inr z
      · exact .inl (List.mem_cons_of_mem _ z)
    · rw [if_neg q] at h ⊢
      rcases List.mem_cons.mp h with z | z
      · exact .inl (by rw [z]; simp)
      · rcases mem_addA z with w | w
        · exact .inl (List.mem_cons_of_mem _ w)
        · exact .inr w
theorem addA_key {k : Pr} {f : Int × Int} : ∀ {A : GA}, (addA k f A).map (·.1) = if k ∈ A.map (·.1) then A.map (·.1) else A.map (·.1) ++ [k]
  | [] => rfl
  | a :: r => by
    have ih := addA_key (k := k) (f := f) (A := r)
    unfold addA
    by_cases q : a.1 = k
    · rw [if_pos q, if_pos (by simp [q])]
      rfl
    · rw [if_neg q, List.map_cons, ih, List.map_cons]
      have e : (k ∈ a.1 :: r.map (·.1)) ↔ k ∈ r.map (·.1) := by
        rw [List.mem_cons]
        exact ⟨fun z => z.elim (fun w => absurd w.symm q) id, .inr⟩
      by_cases hk : k ∈ r.map (·.1)
      · rw [if_pos hk, if_pos (e.mpr hk)]
      · rw [if_neg hk, if_neg fun z => hk (e.mp z)]
        rfl
theorem imgL_put {k : Pr} {f : Int × Int} : ∀ {A : GA}, (A.map (·.1)).Nodup → putT (imgL A) (kyP k) (pr (pl (sumF (getA k A)) f)) = imgL (addA k f A) := by
  intro A nd
  have ky : ∀ (e : Pr × List (Int × Int)), decide (kyP e.1 = kyP k) = decide (e.1 = k) := fun e => decide_eq_decide.mpr ⟨kyP_inj, fun z => by rw [z]⟩
  have main : ∀ A : GA, (A.map (·.1)).Nodup → ∀ d : PyData, (k ∈ A.map (·.1) → d = pr (sumF (getA k A ++ [f]))) → (k ∉ A.map (·.1) → d = pr (sumF [f])) → putT (imgL A) (kyP k) d = imgL (addA k f A) := by
    intro A
    induction A with
    | nil =>
      intro _ d _ h2
      rw [h2 (by simp)]
      rfl
    | cons a r ih =>
      intro nd d h1 h2
      rw [List.map_cons, List.nodup_cons] at nd
      unfold putT at ih ⊢
      by_cases q : a.1 = k
      · have hd := h1 (by simp [q])
        have ea : ((imgL (a :: r)).any fun kv => decide (kv.1 = kyP k)) = true := by
          unfold imgL
          rw [List.map_cons, List.any_cons]
          have : decide (kyP a.1 = kyP k) = true := decide_eq_true (by rw [q])
          rw [this]
          rfl
        rw [if_pos ea]
        unfold imgL addA
        rw [if_pos q, List.map_cons, List.map_cons, List.map_cons, if_pos (by rw [q])]
        unfold getA at hd
        rw [if_pos q] at hd
        rw [hd]
        congr 1
        rw [List.map_map]
        refine List.map_congr_left fun e he => ?_
        have ne : ¬ kyP e.1 = kyP k := fun z => nd.1 (by
          rw [q, ← kyP_inj z]
          exact List.mem_map.mpr ⟨e, he, rfl⟩)
        simp only [Function.comp, if_neg ne]
      · have ih := ih nd.2 d (fun hk => by
          have := h1 (by simp only [List.map_cons, List.mem_cons]; exact .inr hk)
          unfold getA at this
          rw [if_neg q] at this
          exact this) (fun hk => h2 (fun z => by
          simp only [List.map_cons, List.mem_cons] at z
          rcases z with z | z
          · exact q z.symm
          · exact hk z))
        have nk : ¬ kyP a.1 = kyP k := fun z => q (kyP_inj z)
        have e1 : imgL (a :: r) = (kyP a.1, pr (sumF a.2)) :: imgL r := rfl
        have e2 : imgL (addA k f (a :: r)) = (kyP a.1, pr (sumF a.2)) :: imgL (addA k f r) := by
          have : addA k f (a :: r) = a :: addA k f r := if_neg q
          rw [this]
          rfl
        rw [e1, e2, ← ih, List.any_cons, decide_eq_false nk, Bool.false_or]
        by_cases hb : ((imgL r).any fun kv => decide (kv.1 = kyP k)) = true
        · rw [if_pos hb, if_pos hb, List.map_cons, if_neg nk]
        · rw [if_neg hb, if_neg hb]
          rfl
  have none_get : ∀ A : GA, k ∉ A.map (·.1) → getA k A = [] := by
    intro A
    induction A with
    | nil => intro _; rfl
    | cons a r ih =>
      intro h
      unfold getA
      rw [if_neg (fun z => h (by simp [z]))]
      exact ih fun z => h (by simp only [List.map_cons, List.mem_cons]; exact .inr z)
  refine main A nd _ (fun _ => ?_) (fun h => ?_)
  · rw [foldl_snoc]
  · rw [none_get A h]
    rfl
structure AOk (M n : Nat) (A : GA) : Prop where
  nd : (A.map (·.1)).Nodup
  lt : ∀ e ∈ A, e.1.1 < e.1.2 ∧ e.1.2 < M
  wt : ∀ e ∈ A, (∀ f ∈ e.2, Wt f) ∧ e.2.length ≤ n
  len : A.length ≤ n
theorem getA_ok {M n : Nat} {A : GA} (a : AOk M n A) (k : Pr) : (∀ f ∈ getA k A, Wt f) ∧ (getA k A).length ≤ n := by
  have : getA k A = [] ∨ ∃ e ∈ A, getA k A = e.2 := by
    clear a
    induction A with
    | nil => exact .inl rfl
    | cons e r ih =>
      unfold getA
      by_cases q : e.1 = k
      · rw [if_pos q]; exact .inr ⟨e, by simp, rfl⟩
      · rw [if_neg q]
        rcases ih with z | ⟨x, h1, h2⟩
        · exact .inl z
        · exact .inr ⟨x, List.mem_cons_of_mem _ h1, h2⟩
  rcases this with z | ⟨e, h1, h2⟩
  · rw [z]; exact ⟨nofun, Nat.zero_le _⟩
  · rw [h2]; exact a.wt e h1
theorem AOk.add {M n : Nat} {A : GA} (a : AOk M n A) {k : Pr} {f : Int × Int} (h1 : k.1 < k.2) (h2 : k.2 < M) (hf : Wt f) : AOk M (n + 1) (addA k f A) := by
  have ek := addA_key (k := k) (f := f) (A := A)
  refine ⟨?_, fun e he => ?_, fun e he => ?_, ?_⟩
  · rw [ek]
    split
    · exact a.nd
    · next hk => exact List.nodup_append.mpr ⟨a.nd, by simp, fun x hx y hy z => hk (by simp at hy; rw [← hy, ← z]; exact hx)⟩
  · rcases mem_addA he with z | z
    · exact a.lt e z
    · rw [z]; exact ⟨h1, h2⟩
  · rcases mem_addA he with z | z
    · have := a.wt e z
      exact ⟨this.1, by omega⟩
    · rw [z]
      have := getA_ok a k
      refine ⟨fun x hx => ?_, by simp; exact this.2⟩
      rcases List.mem_append.mp hx with w | w
      · exact this.1 x w
      · simp at w
        rw [w]
        exact hf
  · have h3 : (addA k f A).length = ((addA k f A).map (·.1)).length := (List.length_map _).symm
    rw [h3, ek]
    have h4 := a.len
    split
    · rw [List.length_map]; omega
    · rw [List.length_append, List.length_map]; simp; omega
theorem AOk.mono {M n k : Nat} {A : GA} (a : AOk M n A) (h : n ≤ k) : AOk M k A := ⟨a.nd, a.lt, fun e he => ⟨(a.wt e he).1, Nat.le_trans (a.wt e he).2 h⟩, Nat.le_trans a.len h⟩
def prT (gs : List Nat) (t : Tie) : Pr := (min (gs.getD t.1 0) (gs.getD t.2.1 0), max (gs.getD t.1 0) (gs.getD t.2.1 0))
def shT (cs : List Nat) (t : Tie) : Int × Int := if cs.getD t.1 0 = cs.getD t.2.1 0 then t.2.2 else (-t.2.2.1, t.2.2.2)
def stA (gs cs : List Nat) (A : GA) (t : Tie) : GA := if (prT gs t).1 = (prT gs t).2 then A else addA (prT gs t) (shT cs t) A
def glA (gs cs : List Nat) (ts : List Tie) : GA := ts.foldl (stA gs cs) []
theorem glA_snoc (gs cs : List Nat) {ts : List Tie} {i : Nat} {t : Tie} (h : ts[i]? = some t) : glA gs cs (ts.take (i + 1)) = stA gs cs (glA gs cs (ts.take i)) t := by
  unfold glA
  rw [take_snoc h, List.foldl_append]
  rfl
theorem shT_wt {m : Nat} {t : Tie} (h : TieOk m t) (cs : List Nat) : Wt (shT cs t) := by
  unfold shT
  split
  · exact h.w
  · refine ⟨⟨h.w.lo.pos, by show Int.gcd (-t.2.2.1) t.2.2.2 = 1; rw [Int.neg_gcd]; exact h.w.lo.low⟩, ?_, h.w.b2⟩
    exact h.w.b1.neg
/-- the greatest of the groups -/
def mxG (gs : List Nat) : Nat := gs.foldl max 0
theorem mxG_ge (gs : List Nat) : (∀ x ∈ gs, x ≤ mxG gs) ∧ (mxG gs = 0 ∨ mxG gs ∈ gs) := by
  have gen : ∀ (gs : List Nat) (a : Nat), a ≤ gs.foldl max a ∧ (∀ x ∈ gs, x ≤ gs.foldl max a) ∧ (gs.foldl max a = a ∨ gs.foldl max a ∈ gs) := by
    intro gs
    induction gs with
    | nil => intro a; exact ⟨Nat.le_refl _, nofun, .inl rfl⟩
    | cons y r ih =>
      intro a
      obtain ⟨h1, h2, h3⟩ := ih (max a y)
      refine ⟨Nat.le_trans (Nat.le_max_left a y) h1, fun x hx => ?_, ?_⟩
      · rcases List.mem_cons.mp hx with z | z
        · rw [z]; exact Nat.le_trans (Nat.le_max_right a y) h1
        · exact h2 x z
      · rcases h3 with z | z
        · by_cases q : a ≤ y
          · right
            show r.foldl max (max a y) ∈ y :: r
            rw [z, Nat.max_eq_right q]
            simp
          · left
            show r.foldl max (max a y) = a
            rw [z, Nat.max_eq_left (by omega)]
        · exact .inr (List.mem_cons_of_mem _ z)
  exact (gen gs 0).2
theorem mxG_is {gs : List Nat} {n : Int} (h1 : n ∈ gs.map fun (k : Nat) => (k : Int)) (h2 : ∀ y ∈ gs.map fun (k : Nat) => (k : Int), y ≤ n) : n = (mxG gs : Int) := by
  obtain ⟨k, hk, rfl⟩ := List.mem_map.mp h1
  obtain ⟨h3, h4⟩ := mxG_ge gs
  have h5 := h3 k hk
  rcases h4 with z | z
  · omega
  · have := h2 _ (List.mem_map.mpr ⟨_, z, rfl⟩)
    omega
theorem glA_ok {m : Nat} {ts : List Tie} {gs : List Nat} (hw : WebOk m ts) (hl : gs.length = m) (cs : List Nat) : ∀ i, i ≤ ts.length → AOk (mxG gs + 1) i (glA gs cs (ts.take i))
  | 0, _ => ⟨List.nodup_nil, nofun, nofun, Nat.le_refl _⟩
  | i + 1, h => by
    have q : ts[i]? = some (ts[i]'(by omega)) := List.getElem?_eq_getElem _
    have ih := glA_ok hw hl cs i (by omega)
    rw [glA_snoc gs cs q]
    have tk := hw.all _ (List.mem_of_getElem? q)
    generalize ts[i] = t at tk
    have gl : ∀ p, p < m → gs.getD p 0 ≤ mxG gs := fun p hp => (mxG_ge gs).1 _ (by simp [List.getD, hl, hp])
    have t1 := tk.lt
    have t2 := tk.lm
    have g1 := gl t.1 (by omega)
    have g2 := gl t.2.1 t2
    unfold stA
    split
    · exact ih.mono (by omega)
    · next ne =>
      refine ih.add ?_ ?_ (shT_wt tk cs)
      · have ne : ¬ min (gs.getD t.1 0) (gs.getD t.2.1 0) = max (gs.getD t.1 0) (gs.getD t.2.1 0) := ne
        show min (gs.getD t.1 0) (gs.getD t.2.1 0) < max (gs.getD t.1 0) (gs.getD t.2.1 0)
        omega
      · show max (gs.getD t.1 0) (gs.getD t.2.1 0) < mxG gs + 1
        omega
/-- sorted by their pairs -/
def leA (x y : Pr × List (Int × Int)) : Bool := decide (x.1.1 < y.1.1 ∨ (x.1.1 = y.1.1 ∧ x.1.2 ≤ y.1.2))
def sA (A : GA) : GA := A.mergeSort leA
def tieE (e : Pr × List (Int × Int)) : Tie := (e.1.1, e.1.2, sumF e.2)
theorem sA_perm (A : GA) : (sA A).Perm A := List.mergeSort_perm A leA
theorem sA_pw {A : GA} (nd : (A.map (·.1)).Nodup) : (sA A).Pairwise fun a b => a.1.1 < b.1.1 ∨ (a.1.1 = b.1.1 ∧ a.1.2 < b.1.2) := by
  have h1 : (sA A).Pairwise fun a b => leA a b = true := List.pairwise_mergeSort (le := leA) (fun a b c h1 h2 => by
    have := of_decide_eq_true h1
    have := of_decide_eq_true h2
    exact decide_eq_true (by omega)) (fun a b => by
    rw [Bool.or_eq_true]
    unfold leA
    by_cases h : a.1.1 < b.1.1 ∨ (a.1.1 = b.1.1 ∧ a.1.2 ≤ b.1.2)
    · exact .inl (decide_eq_true h)
    · exact .inr (decide_eq_true (by omega))) A
  have nd2 : ((sA A).map (·.1)).Nodup := ((sA_perm A).map _).nodup_iff.mpr nd
  have h2 : (sA A).Pairwise fun a b => a.1 ≠ b.1 := by
    rw [← List.pairwise_map (f := fun e : Pr × List (Int × Int) => e.1) (R := fun x y => x ≠ y)]
    exact nd2
  refine (h1.and h2).imp fun {a b} h => ?_
  have h3 := of_decide_eq_true h.1
  have h4 : ¬ (a.1.1 = b.1.1 ∧ a.1.2 = b.1.2) := fun z => h.2 (Prod.ext z.1 z.2)
  omega
def dueT (gs cs : List Nat) (ts : List Tie) : List Tie := (sA (glA gs cs ts)).map tieE
theorem dueT_rise {m : Nat} {ts : List Tie} {gs : List Nat} (hw : WebOk m ts) (hl : gs.length = m) (cs : List Nat) : Rise (dueT gs cs ts) := by
  have ok := glA_ok hw hl cs ts.length (Nat.le_refl _)
  rw [List.take_length] at ok
  exact List.pairwise_map.mpr ((sA_pw ok.nd).imp fun h => h)
theorem sumF_all {fs : List (Int × Int)} (hw : ∀ f ∈ fs, Wt f) : Lo (sumF fs) ∧ val (sumF fs) = sumV fs := sumF_lo fs fun f hf => by have := (hw f hf).lo.pos; omega
def smB (t : Tie) : Bool := decide (t.2.2.1.natAbs ≤ 1000000000) && decide (t.2.2.2 ≤ 1000)
theorem smB_sm {t : Tie} (h : smB t = true) : Sm t := by
  unfold smB at h
  rw [Bool.and_eq_true] at h
  exact ⟨of_decide_eq_true h.1, of_decide_eq_true h.2⟩
def goodB (gs cs : List Nat) (ts : List Tie) : Bool := (dueT gs cs ts).all smB
theorem dueT_web {m : Nat} {ts : List Tie} {gs : List Nat} (hw : WebOk m ts) (hl : gs.length = m) (hg : ∀ g ∈ gs, g < m) (cs : List Nat) (gd : goodB gs cs ts = true) : WebOk (mxG gs + 1) (dueT gs cs ts) ∧ ∀ t ∈ dueT gs cs ts, Sm t := by
  have ok := glA_ok hw hl cs ts.length (Nat.le_refl _)
  rw [List.take_length] at ok
  have sm : ∀ t ∈ dueT gs cs ts, Sm t := fun t ht => smB_sm (List.all_eq_true.mp gd t ht)
  refine ⟨⟨fun t ht => ?_, ?_, by omega, ?_⟩, sm⟩
  · have s := sm t ht
    obtain ⟨e, he, rfl⟩ := List.mem_map.mp ht
    have he := (sA_perm _).mem_iff.mp he
    have h1 := ok.lt e he
    have h2 := ok.wt e he
    exact ⟨h1.1, h1.2, (sumF_all h2.1).1, Bd.of (Nat.lt_of_le_of_lt s.1 (by decide)), Bd.of (by
      have h3 := (sumF_all h2.1).1.pos
      have h4 := s.2
      show (sumF e.2).2.natAbs < _
      have h4 : (sumF e.2).2 ≤ 1000 := h4
      omega)⟩
  · have h1 := (sA_perm (glA gs cs ts)).length_eq
    have h2 := ok.len
    have h3 := hw.len
    unfold dueT
    rw [List.length_map]
    omega
  · have h1 := hw.m60
    have h2 := hw.m1
    rcases (mxG_ge gs).2 with z | z
    · omega
    · have := hg _ z
      omega

def jOk (m : Nat) (j : Jn) : Prop := j.1 < m ∧ j.2.1 < m ∧ j.1 ≠ j.2.1 ∧ j.2.2 < 2
theorem unl_j {m : Nat} {j : Jn} (h : jOk m j) : unlB m (.int j.1) (.int j.2.1) = true := by
  obtain ⟨h1, h2, h3, h4⟩ := h
  have e : PyData.eqv (.int (j.1 : Int)) (.int (j.2.1 : Int)) = false := by
    show (((j.1 : Nat) : Int) == ((j.2.1 : Nat) : Int)) = false
    simp
    omega
  simp [unlB, numB, e]
  omega
theorem num_j {m : Nat} {j : Jn} (h : jOk m j) : numB 2 (.int j.2.2) = true := by
  obtain ⟨h1, h2, h3, h4⟩ := h
  simp [numB]
  omega
abbrev triJ (j : Jn) : List PyData := [.int j.1, .int j.2.1, .int j.2.2]
/-- a wish, as a list or a tuple -/
def RowJ (x : PyData) (j : Jn) : Prop := x = .list (triJ j) ∨ x = .tuple (triJ j)
theorem RowJ.trip {x : PyData} {j : Jn} (h : RowJ x j) : tripB x = true := by
  rcases h with rfl | rfl <;> rfl
/-- wishes, as a list or a tuple of such rows -/
structure RowsJ (x : PyData) (hs : List PyData) (js : List Jn) : Prop where
  row : x = .list hs ∨ x = .tuple hs
  len : hs.length = js.length
  all : ∀ (i : Nat) (h : PyData) (j : Jn), hs[i]? = some h → js[i]? = some j → RowJ h j
theorem RowsJ.at {x : PyData} {hs : List PyData} {js : List Jn} (r : RowsJ x hs js) {i : Nat} {h : PyData} (hi : hs[i]? = some h) : ∃ j, js[i]? = some j ∧ RowJ h j := by
  have l := (List.getElem?_eq_some_iff.mp hi).1
  have e : js[i]? = some (js[i]'(by rw [← r.len]; exact l)) := List.getElem?_eq_getElem _
  exact ⟨_, e, r.all i h _ hi e⟩
theorem RowsJ.isRow {x : PyData} {hs : List PyData} {js : List Jn} (r : RowsJ x hs js) : isRow x = true := by
  rcases r.row with rfl | rfl <;> rfl
theorem RowsJ.sv {x : PyData} {hs : List PyData} {js : List Jn} (r : RowsJ x hs js) (ms : List MD) : Sv ms (.d x) (.list hs) ∨ Sv ms (.d x) (.tuple hs) := by
  rcases r.row with rfl | rfl
  · exact .inl (.d _)
  · exact .inr (.d _)

def wF (t : Tie) : Int × Int := t.2.2
def cB (bs : List Int) (t : Tie) : Bool := !decide (bs.getD t.1 0 = bs.getD t.2.1 0)
def W (ts : List Tie) (bs : List Int) : Rat := sumV ((ts.filter (cB bs)).map wF)
theorem bitI_at {bs : List Int} {i : Nat} (h : i < bs.length) : (bs.map PyData.int)[i]? = some (.int (bs.getD i 0)) := by
  rw [List.getElem?_map, List.getElem?_eq_getElem h]
  simp [List.getD, h]

def Φ__law_weight_of : Ph := ph2 fun a b ms R => ∃ (m : Nat) (ts : List Tie) (bs : List Int), a = .d (encW m ts) ∧ b = .d (.tuple (bs.map .int)) ∧ WebOk m ts ∧ bs.length = m ∧ R (.d (pr (sumF ((ts.filter (cB bs)).map wF)))) ms
theorem len__law_weight_of : ∀ as ms R, Φ__law_weight_of as ms R → as.length = 2 := ph2_len
theorem sum_ok {fs : List (Int × Int)} (hw : ∀ f ∈ fs, Wt f) (hl : fs.length ≤ 170) : Lo (sumF fs) ∧ val (sumF fs) = sumV fs ∧ Bd 8000 (sumF fs).1 ∧ Bd 2000 (sumF fs).2 := by
  have s := sumF_lo fs fun f hf => by have := (hw f hf).lo.pos; omega
  have b := fold_bd fs (0, 1) 1 1 (by decide) (by decide) (Bd.of (by decide)) (Bd.of (by decide)) fun f hf => wt_ok (hw f hf)
  exact ⟨s.1, s.2, b.1.mono (by omega), b.2.mono (by omega)⟩
theorem web_wts {m : Nat} {ts : List Tie} (hw : WebOk m ts) (p : Tie → Bool) (k : Nat) : (∀ f ∈ ((ts.take k).filter p).map wF, Wt f) ∧ (((ts.take k).filter p).map wF).length ≤ 170 := by
  refine ⟨fun f hf => ?_, ?_⟩
  · obtain ⟨t, ht, rfl⟩ := List.mem_map.mp hf
    exact (hw.all t (List.mem_of_mem_take (List.mem_filter.mp ht).1)).w
  · have h1 := List.length_filter_le p (ts.take k)
    have h2 := hw.len
    rw [List.length_map]
    rw [List.length_take] at h1
    omega
theorem wt_of {m : Nat} {ts : List Tie} (hw : WebOk m ts) (bs : List Int) : Lo (sumF ((ts.filter (cB bs)).map wF)) ∧ val (sumF ((ts.filter (cB bs)).map wF)) = W ts bs ∧ Bd 8000 (sumF ((ts.filter (cB bs)).map wF)).1 ∧ Bd 2000 (sumF ((ts.filter (cB bs)).map wF)).2 := by
  have w := web_wts hw (cB bs) ts.length
  rw [List.take_length] at w
  exact sum_ok w.1 w.2
theorem rd__law_weight_of {K : PySem.W.Frag} : ∀ as ms R, Φ__law_weight_of as ms R → S K (t__law_weight_of K Φ__law_plus) (as ++ List.replicate (6 - as.length) .u) ms (fin R) := by
  rintro as ms R ⟨a, b, rfl, m, ts, bs, rfl, rfl, hw, hl, r⟩
  unfold t__law_weight_of
  walk_at "evs"
  refine s_forT (js := [3, 4, 5]) ?_
  walk_at "evs"
  refine ⟨fun i ds' ms' => ∃ o5 o6 o7 : SD, ds' = [.d (encW m ts), .d (.tuple (bs.map .int)), .d (pr (sumF (((ts.take i).filter (cB bs)).map wF))), o5, o6, o7] ∧ ms' = ms, ⟨.u, .u, .u, rfl, rfl⟩, ?_, ?_⟩
  · rintro i e ds' ms' hi ⟨o5, o6, o7, rfl, rfl⟩
    rw [List.getElem?_map] at hi
    cases q : ts[i]? with
    | none => rw [q] at hi; cases hi
    | some t =>
      rw [q] at hi
      have e1 := (Option.some.inj hi).symm
      subst e1
      have ht := hw.all t (List.mem_of_getElem? q)
      have tl := ht.lt
      have tm := ht.lm
      refine eg_tup rfl (egs_cons (eg_name (egs_cons (eg_name (egs_cons (eg_name (egs_nil ?_)))))))
      walk_at "evs"
      refine rr_ix ⟨_, _, _, .inr (.d _), rfl, atI_nat (bitI_at (by omega)), ?_⟩
      walk_at "evs"
      refine rr_ix ⟨_, _, _, .inr (.d _), rfl, atI_nat (bitI_at (by omega)), ?_⟩
      refine rr_ne ⟨_, _, .d _, .d _, shaped_int _, shaped_int _, ?_⟩
      rw [eqv_int]
      refine ⟨_, rfl, fun h => ?_, fun h => ?_⟩
      · have yes : cB bs t = true := h
        obtain ⟨w1, w2⟩ := web_wts hw (cB bs) i
        obtain ⟨s1, _, s3, s4⟩ := sum_ok w1 w2
        have wt := ht.w
        walk_at "evs"
        refine ⟨_, _, rfl, _, _, rfl, rfl, s1.pos, wt.lo.pos, s3.mono (by decide), s4.mono (by decide), wt.b1.mono (by decide), wt.b2.mono (by decide), ?_⟩
        refine ⟨.d (.int t.1), .d (.int t.2.1), .d (pr t.2.2), ?_, rfl⟩
        rw [take_snoc q, List.filter_append, List.filter_cons, if_pos yes, List.map_append]
        show _ = [_, _, SD.d (pr (sumF (_ ++ [wF t]))), _, _, _]
        rw [foldl_snoc]
        rfl
      · have nob : cB bs t = false := h
        refine s_next ⟨.d (.int t.1), .d (.int t.2.1), .d (pr t.2.2), ?_, rfl⟩
        rw [take_snoc q, List.filter_append, List.filter_cons, if_neg (by rw [nob]; decide)]
        simp
  · rintro ds' ms' ⟨o5, o6, o7, rfl, rfl⟩
    walk_at "evs"
    rw [List.length_map, List.take_length]
    exact r

/-- what may be told of wishes: that they cannot be kept, or groups numbered by their first points -/
def TellG (m : Nat) (js : List Jn) (no : Prop) (yes : List Nat → List Nat → Prop) : Prop :=
  ((∀ s, ¬ KeepF js s) → no) ∧ ∀ (fs gs cs : List Nat), GrOk m js gs cs → Can m fs gs cs → yes gs cs
theorem rowJ_wish {m : Nat} {x : PyData} {j : Jn} (h : RowJ x j) (hj : jOk m j) : wishB m x = true ∧ tupE x = encJ j := by
  have hu := unl_j hj
  have hn := num_j hj
  rcases h with rfl | rfl
  · exact ⟨by show (unlB m _ _ && numB 2 _) = true; rw [hu, hn]; rfl, rfl⟩
  · exact ⟨by show (unlB m _ _ && numB 2 _) = true; rw [hu, hn]; rfl, rfl⟩
theorem rows_thing {m : Nat} {x : PyData} {hs : List PyData} {js : List Jn} (r : RowsJ x hs js) (hl : js.length ≤ 120) (hj : ∀ j ∈ js, jOk m j) : rowE x = some hs ∧ thingB m x = true ∧ hs.map tupE = js.map encJ := by
  have e : rowE x = some hs := by rcases r.row with rfl | rfl <;> rfl
  refine ⟨e, ?_, ?_⟩
  · unfold thingB
    rw [e]
    show (decide (hs.length ≤ 120) && hs.all (wishB m)) = true
    rw [decide_eq_true (by rw [r.len]; exact hl), Bool.true_and, List.all_eq_true]
    intro h hh
    obtain ⟨i, hi⟩ := List.mem_iff_getElem?.mp hh
    obtain ⟨j, h1, h2⟩ := r.at hi
    exact (rowJ_wish h2 (hj j (List.mem_of_getElem? h1))).1
  · refine List.ext_getElem? fun i => ?_
    rw [List.getElem?_map, List.getElem?_map]
    cases q : hs[i]? with
    | none =>
      have : js[i]? = none := by rw [List.getElem?_eq_none_iff] at q ⊢; rw [← r.len]; exact q
      rw [this]
      rfl
    | some h =>
      obtain ⟨j, h1, h2⟩ := r.at q
      rw [h1]
      show some (tupE h) = some (encJ j)
      rw [(rowJ_wish h2 (hj j (List.mem_of_getElem? h1))).2]
def Φ_grouped (C_CutError C_NoWeb C_NoSide C_NoWishes C_TooGreat : Addr) : PhY := phy2 fun a b ms R Y => ∃ (m : Nat) (w x : PyData), a = .d (.tuple [.int m, w]) ∧ b = .d x ∧
  ((thingB m x = false ∧ Y C_NoWishes ms) ∨ ∃ (hs : List PyData) (js : List Jn), RowsJ x hs js ∧ js.length ≤ 120 ∧ JOk m js ∧
    TellG m js (∀ ns, R (.d (.tuple [.str "ring", tN ns])) ms) fun gs cs => R (.d (.tuple [.str "groups", tN gs, tN cs])) ms)
theorem len_grouped {C_CutError C_NoWeb C_NoSide C_NoWishes C_TooGreat : Addr} : ∀ as ms R Y, Φ_grouped C_CutError C_NoWeb C_NoSide C_NoWishes C_TooGreat as ms R Y → as.length = 2 := phy2_len
theorem rd_grouped {K : PySem.W.Frag} {C_CutError C_NoWeb C_NoSide C_NoWishes C_TooGreat : Addr} : ∀ as ms R Y, Φ_grouped C_CutError C_NoWeb C_NoSide C_NoWishes C_TooGreat as ms R Y → SY K (t_grouped K C_CutError C_NoWeb C_NoSide C_NoWishes C_TooGreat Φ_parted Φ_made_wishes) (as ++ List.replicate (2 - as.length) .u) ms (fin R) Y := by
  rintro as ms R Y ⟨a, b, rfl, m, w, x, rfl, rfl, h⟩
  unfold t_grouped
  refine sy_ret (ex_call (eax_cons (ex_of (e_op (e_var rfl (e_int (rr_ix ⟨_, _, _, .inr (.d _), rfl, atI_nat (j := 0) rfl, ?_⟩)))))))
  refine eax_cons (ex_callX (eax_of (ea_cons (e_var rfl (ea_cons (e_var rfl (ea_nil ⟨_, _, rfl, m, w, x, rfl, rfl, fun hs he ht => ?_, fun hf => ?_⟩)))))))
  · rcases h with ⟨hf, _⟩ | ⟨hs', js, hr, hl, hj, no, yes⟩
    · rw [hf] at ht; cases ht
    obtain ⟨e1, e2, e3⟩ := rows_thing hr hl hj.all
    rw [e1] at he
    cases he
    rw [e3]
    refine eax_nil ⟨_, _, rfl, m, js, rfl, rfl, hj, fun ns hns => ?_, fun fs rs G C s hall hfit => ?_⟩
    · exact no (fun s hk => ring_no hj hns s hk) ns
    · exact yes fs _ _ (gr_of hj s hall hfit) (s.can hall)
  · rcases h with ⟨_, y⟩ | ⟨hs', js, hr, hl, hj, no, yes⟩
    · exact y
    · obtain ⟨e1, e2, e3⟩ := rows_thing hr hl hj.all
      rw [e2] at hf; cases hf

def mkB (cs : List Nat) (t : Tie) : Bool := !decide (cs.getD t.1 0 = cs.getD t.2.1 0)
def Φ_unlike_weights : Ph := ph2 fun a b ms R => ∃ (m : Nat) (ts : List Tie) (cs : List Nat), a = .d (encW m ts) ∧ b = .d (tN cs) ∧ WebOk m ts ∧ cs.length = m ∧ R (.f (((ts.filter (mkB cs)).map wF).map pr)) ms
theorem len_unlike_weights : ∀ as ms R, Φ_unlike_weights as ms R → as.length = 2 := ph2_len
theorem natN_at {ss : List Nat} {p : Nat} (h : p < ss.length) : (ss.map fun (k : Nat) => PyData.int k)[p]? = some (.int (ss.getD p 0 : Nat)) := by
  rw [List.getElem?_map, List.getElem?_eq_getElem h]
  simp [List.getD, h]
theorem eqvN (a b : Nat) : PyData.eqv (.int (a : Int)) (.int (b : Int)) = decide (a = b) := by
  rw [eqv_int]
  exact decide_eq_decide.mpr ⟨fun h => by omega, fun h => by omega⟩
theorem rd_unlike_weights {K : PySem.W.Frag} : ∀ as ms R, Φ_unlike_weights as ms R → S K (t_unlike_weights K) (as ++ List.replicate (5 - as.length) .u) ms (fin R) := by
  rintro as ms R ⟨a, b, rfl, m, ts, cs, rfl, rfl, hw, hl, r⟩
  unfold t_unlike_weights
  refine s_ret (e_lcT (js := [2, 3, 4]) (by simp) (e_op (e_var rfl (e_int (rr_ix ⟨_, _, _, .inr (.d _), rfl, atI_nat (j := 1) rfl, ?_⟩)))))
  refine ⟨_, rfl, by rw [List.length_map]; have := hw.len; omega, fun i acc ms' => acc = (((ts.take i).filter (mkB cs)).map wF).map pr ∧ ms' = ms, ⟨rfl, rfl⟩, ?_, ?_⟩
  · rintro i e acc ms' hi ⟨rfl, rfl⟩
    rw [List.getElem?_map] at hi
    cases q : ts[i]? with
    | none => rw [q] at hi; cases hi
    | some t =>
      rw [q] at hi
      have e1 := (Option.some.inj hi).symm
      subst e1
      have ht := hw.all t (List.mem_of_getElem? q)
      have tl := ht.lt
      have tm := ht.lm
      refine eg_tup rfl (egs_cons (eg_name (egs_cons (eg_name (egs_cons (eg_name (egs_nil ?_)))))))
      refine et_test (e_op (e_op (e_var rfl (e_var rfl (rr_ix ⟨_, _, _, .inr (.d _), rfl, atI_nat (natN_at (by omega)), ?_⟩)))))
      refine e_op (e_var rfl (e_var rfl (rr_ix ⟨_, _, _, .inr (.d _), rfl, atI_nat (natN_at (by omega)), ?_⟩)))
      refine rr_ne ⟨_, _, .d _, .d _, shaped_int _, shaped_int _, ?_⟩
      rw [eqvN]
      refine ⟨_, rfl, fun h => ?_, fun h => ?_⟩
      · have yes : mkB cs t = true := h
        refine e_var rfl ⟨_, rfl, ?_, rfl⟩
        rw [take_snoc q, List.filter_append, List.filter_cons, if_pos yes, List.map_append, List.map_append]
        rfl
      · have nob : mkB cs t = false := h
        refine ⟨?_, rfl⟩
        rw [take_snoc q, List.filter_append, List.filter_cons, if_neg (by rw [nob]; decide)]
        simp
  · rintro acc ms' ⟨rfl, rfl⟩
    rw [List.length_map, List.take_length]
    exact r

theorem rowK_prT (gs : List Nat) (t : Tie) : PyData.tuple [.int (if ((gs.getD t.2.1 0 : Nat) : Int) < ((gs.getD t.1 0 : Nat) : Int) then ((gs.getD t.2.1 0 : Nat) : Int) else ((gs.getD t.1 0 : Nat) : Int)), .int (if ((gs.getD t.2.1 0 : Nat) : Int) > ((gs.getD t.1 0 : Nat) : Int) then ((gs.getD t.2.1 0 : Nat) : Int) else ((gs.getD t.1 0 : Nat) : Int))] = rowK (kyP (prT gs t)) := by
  show _ = PyData.tuple [.int ((min (gs.getD t.1 0) (gs.getD t.2.1 0) : Nat) : Int), .int ((max (gs.getD t.1 0) (gs.getD t.2.1 0) : Nat) : Int)]
  congr 2
  · congr 1
    split <;> omega
  · congr 2
    split <;> omega
theorem imgP_len (A : GA) : (imgP A).length = A.length := List.length_map _
def Φ_terms_between : Ph := ph3 fun a b c ms R => ∃ (m : Nat) (ts : List Tie) (gs cs : List Nat), a = .d (encW m ts) ∧ b = .d (tN gs) ∧ c = .d (tN cs) ∧ WebOk m ts ∧ gs.length = m ∧ cs.length = m ∧ R (.w (isZ ((imgP (glA gs cs ts)).map fun e => (e.1, .list e.2)))) ms
theorem len_terms_between : ∀ as ms R, Φ_terms_between as ms R → as.length = 3 := ph3_len
theorem rd_terms_between {K : PySem.W.Frag} : ∀ as ms R, Φ_terms_between as ms R → S K (t_terms_between K) (as ++ List.replicate (9 - as.length) .u) ms (fin R) := by
  rintro as ms R ⟨a, b, c, rfl, m, ts, gs, cs, rfl, rfl, rfl, hw, hg, hc, r⟩
  have hlen := hw.len
  unfold t_terms_between
  refine s_hidL fun p => sh_forT ΘL_st (js := [4, 5, 6, 7]) (e_op (e_var rfl (e_int (rr_ix ⟨_, _, _, .inr (.d _), rfl, atI_nat (j := 1) rfl, ?_⟩))))
  refine ⟨_, rfl, fun i ds' ms' x' => ∃ (o4 o5 o6 o7 o8 : SD), ds' = [.d (encW m ts), .d (tN gs), .d (tN cs), .v (.ref p), o4, o5, o6, o7, o8] ∧ ms' = ms ∧ x' = (p, imgP (glA gs cs (ts.take i))), ⟨_, _, _, _, _, rfl, rfl, rfl⟩, ?_, ?_⟩
  · rintro i e ds' ms' x' hi ⟨o4, o5, o6, o7, o8, rfl, rfl, rfl⟩
    rw [List.getElem?_map] at hi
    cases q : ts[i]? with
    | none => rw [q] at hi; cases hi
    | some t =>
      rw [q] at hi
      have e1 := (Option.some.inj hi).symm
      subst e1
      have hil := (List.getElem?_eq_some_iff.mp q).1
      have ht := hw.all t (List.mem_of_getElem? q)
      have tl := ht.lt
      have tm := ht.lm
      have ok := glA_ok hw hg cs i (by omega)
      refine eg_tup rfl (egs_cons (eg_name (egs_cons (eg_name (egs_cons (eg_tup rfl (egs_cons (eg_name (egs_cons (eg_name (egs_nil (egs_nil ?_))))))))))))
      refine sh_seq (sh_of ΘL_st (s_asg (e_tup (ea_cons (e_cb (ea_cons (e_op (e_var rfl (e_var rfl (rr_ix ⟨_, _, _, .inr (.d _), rfl, atI_nat (natN_at (by omega)), ?_⟩)))))))))) 
      refine ea_cons (e_op (e_var rfl (e_var rfl (rr_ix ⟨_, _, _, .inr (.d _), rfl, atI_nat (natN_at (by omega)), ?_⟩))))
      refine ea_nil (rc_min ⟨_, _, rfl, ?_⟩)
      refine ea_cons (e_cb (ea_cons (e_op (e_var rfl (e_var rfl (rr_ix ⟨_, _, _, .inr (.d _), rfl, atI_nat (natN_at (by omega)), ?_⟩)))))) 
      refine ea_cons (e_op (e_var rfl (e_var rfl (rr_ix ⟨_, _, _, .inr (.d _), rfl, atI_nat (natN_at (by omega)), ?_⟩))))
      refine ea_nil (rc_max ⟨_, _, rfl, ?_⟩)
      refine ea_nil ⟨[_, _], rfl, Nat.le_of_ble_eq_true rfl, ?_⟩
      show SH _ _ _ (List.set _ _ (SD.d (.tuple [_, _]))) _ _ _
      rw [rowK_prT]
      have e3 : ∀ (P : SD → SD → Prop), P (.d (.int (prT gs t).1)) (.d (.int (prT gs t).2)) → ∃ x y, rowK (kyP (prT gs t)) = .tuple [.int x, .int y] ∧ P (.d (.int x)) (.d (.int y)) := fun P h => ⟨_, _, rfl, h⟩
      refine sh_if ΘL_st (et_test (e_op (e_op (e_var rfl (e_int (rr_ix ⟨_, _, _, .inr (.d _), rfl, atI_nat (j := 0) rfl, ?_⟩))))))
      refine e_op (e_var rfl (e_int (rr_ix ⟨_, _, _, .inr (.d _), rfl, atI_nat (j := 1) rfl, ?_⟩)))
      refine rr_ne ⟨_, _, .d _, .d _, shaped_int _, shaped_int _, ?_⟩
      refine ⟨_, rfl, fun h => ?_, fun h => ?_⟩
      · have ne : ¬ (prT gs t).1 = (prT gs t).2 := fun z => by
          have h : (!PyData.eqv (.int ((prT gs t).1 : Nat)) (.int ((prT gs t).2 : Nat))) = true := h
          rw [eqvN, decide_eq_true z] at h
          cases h
        have nxt : imgP (glA gs cs (ts.take (i + 1))) = addT (kyP (prT gs t)) (pr (shT cs t)) (imgP (glA gs cs (ts.take i))) := by
          rw [glA_snoc gs cs q, imgP_add]
          unfold stA
          rw [if_neg ne]
        refine sh_setapp rfl (by rw [imgP_len]; have := ok.len; omega) (fun e he => ?_) (e_var rfl ⟨_, rfl, ?_⟩)
        · obtain ⟨e, he2, rfl⟩ := List.mem_map.mp he
          have := (ok.wt e he2).2
          show (e.2.map pr).length < 10000
          rw [List.length_map]
          omega
        refine e_tup (ea_cons (e_if (et_test (e_op (e_op (e_var rfl (e_var rfl (rr_ix ⟨_, _, _, .inr (.d _), rfl, atI_nat (natN_at (by omega)), ?_⟩))))))))
        refine e_op (e_var rfl (e_var rfl (rr_ix ⟨_, _, _, .inr (.d _), rfl, atI_nat (natN_at (by omega)), ?_⟩)))
        refine rr_eq ⟨_, _, .d _, .d _, shaped_int _, shaped_int _, ?_⟩
        rw [eqvN]
        refine ⟨_, rfl, fun h2 => ?_, fun h2 => ?_⟩
        · have h2 := of_decide_eq_true h2
          refine e_var rfl (ea_cons (e_var rfl (ea_nil ⟨[_, _], rfl, Nat.le_of_ble_eq_true rfl, _, rfl, _, _, _, _, _, rfl, rfl, ?_⟩)))
          rw [nxt]
          unfold shT
          rw [if_pos h2]
        · have h2 := of_decide_eq_false h2
          refine e_un (e_var rfl (ru_I ⟨_, rfl, ea_cons (e_var rfl (ea_nil ⟨[_, _], rfl, Nat.le_of_ble_eq_true rfl, _, rfl, _, _, _, _, _, rfl, rfl, ?_⟩))⟩))
          rw [nxt]
          unfold shT
          rw [if_neg h2]
      · have eq : (prT gs t).1 = (prT gs t).2 := by
          have h : (!PyData.eqv (.int ((prT gs t).1 : Nat)) (.int ((prT gs t).2 : Nat))) = false := h
          rw [eqvN] at h
          simpa using h
        refine sh_next ⟨_, _, _, _, _, rfl, rfl, ?_⟩
        rw [glA_snoc gs cs q]
        unfold stA
        rw [if_pos eq]
  · rintro ds' ms' x' ⟨o4, o5, o6, o7, o8, rfl, rfl, rfl⟩
    refine ⟨rfl, rfl, s_ret (e_varw rfl ?_)⟩
    rw [List.length_map, List.take_length]
    exact r

theorem wtB_sm {t : Tie} (h : Lo t.2.2) : wtB (pr t.2.2) = smB t := by
  have hf : isFrac (pr t.2.2) = true := by
    show (decide ((1 : Int) ≤ t.2.2.2) && decide (Int.gcd t.2.2.1 t.2.2.2 = 1)) = true
    rw [decide_eq_true (by have := h.pos; omega), decide_eq_true h.low]
    rfl
  unfold wtB smB
  rw [hf, Bool.true_and]
  show (decide ((t.2.2.1.natAbs : Int) ≤ 1000000000) && decide (t.2.2.2 ≤ 1000)) = _
  rw [decide_eq_decide.mpr (show ((t.2.2.1.natAbs : Int) ≤ 1000000000) ↔ (t.2.2.1.natAbs ≤ 1000000000) by omega)]
/-- the two things that are told of a web and its groups -/
def dueD (gs cs : List Nat) (ts : List Tie) : PyData := .tuple [encW (mxG gs + 1) (dueT gs cs ts), pr (sumF ((ts.filter (mkB cs)).map wF))]
def Φ_glued (C_CutError C_NoWeb C_NoSide C_NoWishes C_TooGreat : Addr) : PhY := phy2 fun a b ms R Y => ∃ (m : Nat) (ts : List Tie) (x : PyData), a = .d (encW m ts) ∧ b = .d x ∧ WebOk m ts ∧
  ((thingB m x = false ∧ Y C_NoWishes ms) ∨ ∃ (hs : List PyData) (js : List Jn), RowsJ x hs js ∧ js.length ≤ 120 ∧ JOk m js ∧
    TellG m js (R (.d .none) ms) fun gs cs => (goodB gs cs ts = true → R (.d (dueD gs cs ts)) ms) ∧ (goodB gs cs ts = false → Y C_TooGreat ms))
theorem len_glued {C_CutError C_NoWeb C_NoSide C_NoWishes C_TooGreat : Addr} : ∀ as ms R Y, Φ_glued C_CutError C_NoWeb C_NoSide C_NoWishes C_TooGreat as ms R Y → as.length = 2 := phy2_len
theorem filt_wts {m : Nat} {ts : List Tie} (hw : WebOk m ts) (p : Tie → Bool) : (∀ f ∈ (ts.filter p).map wF, Wt f) ∧ ((ts.filter p).map wF).length ≤ 170 := by
  have := web_wts hw p ts.length
  rw [List.take_length] at this
  exact this
theorem rd_glued {K : PySem.W.Frag} {C_CutError C_NoWeb C_NoSide C_NoWishes C_TooGreat : Addr} : ∀ as ms R Y, Φ_glued C_CutError C_NoWeb C_NoSide C_NoWishes C_TooGreat as ms R Y →
    SY K (t_glued K C_CutError C_NoWeb C_NoSide C_NoWishes C_TooGreat (Φ_grouped C_CutError C_NoWeb C_NoSide C_NoWishes C_TooGreat) Φ_terms_between Φ_added Φ_is_weight Φ_unlike_weights Φ_made_web) (as ++ List.replicate (11 - as.length) .u) ms (fin R) Y := by
  rintro as ms R Y ⟨a, b, rfl, m, ts, x, rfl, rfl, hw, h⟩
  unfold t_glued
  refine sy_seq (sy_asg (ex_callY (eax_of (ea_cons (e_var rfl (ea_cons (e_var rfl (ea_nil ⟨_, _, rfl, m, _, x, rfl, rfl, ?_⟩))))))))
  rcases h with h | ⟨hs, js, hr, hl, hj, no, yes⟩
  · exact .inl h
  refine .inr ⟨hs, js, hr, hl, hj, fun hno ns => ?_, fun fs gs cs gr can => ?_⟩
  · refine sy_seq (sy_if (et_test (e_op (e_op (e_var rfl (e_int (rr_ix ⟨_, _, _, .inr (.d _), rfl, atI_nat (j := 0) rfl, e_str (rr_eq ⟨_, _, .d _, .d _, by decide +kernel, by decide +kernel, ?_⟩)⟩)))))))
    rw [ring_str]
    exact ⟨true, rfl, fun _ => sy_of (s_ret (e_non (no hno))), nofun⟩
  obtain ⟨good, bad⟩ := yes fs gs cs gr can
  have hg := gr.lg
  have hc := gr.lc
  have ok := glA_ok hw hg cs ts.length (Nat.le_refl _)
  rw [List.take_length] at ok
  have lenA : (glA gs cs ts).length ≤ 170 := Nat.le_trans ok.len hw.len
  refine sy_seq (sy_if (et_test (e_op (e_op (e_var rfl (e_int (rr_ix ⟨_, _, _, .inr (.d _), rfl, atI_nat (j := 0) rfl, e_str (rr_eq ⟨_, _, .d _, .d _, by decide +kernel, by decide +kernel, ?_⟩)⟩)))))))
  rw [groups_str]
  refine ⟨false, rfl, nofun, fun _ => sy_of (s_next ?_)⟩
  refine sy_seq (sy_of (s_asgG (js := [3, 4, 5]) (e_var rfl (eg_tup rfl (egs_cons (eg_name (egs_cons (eg_name (egs_cons (eg_name (egs_nil ?_))))))))))) 
  refine sy_seq (sy_of (s_asg (e_lcRows (js := [7, 8, 9]) (by simp) (e_call (ea_cons (e_var rfl (ea_cons (e_var rfl (ea_cons (e_var rfl (ea_nil ⟨_, _, _, rfl, m, ts, gs, cs, rfl, rfl, rfl, hw, hg, hc, ?_⟩)))))))))))
  refine ⟨_, rfl, by rw [List.length_map, imgP_len]; omega, fun i acc ms' => acc = ((glA gs cs ts).take i).map (fun e => encT (tieE e)) ∧ ms' = ms, ⟨rfl, rfl⟩, ?_, ?_⟩
  · rintro i k e acc ms' hi ⟨rfl, rfl⟩
    unfold imgP at hi
    rw [List.map_map, List.getElem?_map] at hi
    cases q : (glA gs cs ts)[i]? with
    | none => rw [q] at hi; cases hi
    | some y =>
      rw [q] at hi
      have e1 : (kyP y.1, PyData.list (y.2.map pr)) = (k, e) := Option.some.inj hi
      injection e1 with e1 e2
      subst e1 e2
      have wy := ok.wt y (List.mem_of_getElem? q)
      have hl2 := hw.len
      refine eg_tup rfl (egs_cons (eg_tup rfl (egs_cons (eg_name (egs_cons (eg_name (egs_nil (egs_cons (eg_name (egs_nil ?_))))))))))
      refine et_yes ⟨fun _ => e_tup (ea_cons (e_var rfl (ea_cons (e_var rfl (ea_cons (e_call (ea_cons (e_var rfl (ea_nil ⟨_, rfl, y.2, rfl, by omega, wy.1, ?_⟩))))))))), nofun⟩
      refine ea_nil ⟨[_, _, _], rfl, Nat.le_of_ble_eq_true rfl, _, rfl, ?_, rfl⟩
      rw [take_snoc q, List.map_append]
      rfl
  rintro acc ms' ⟨rfl, rfl⟩
  rw [List.length_map, imgP_len, List.take_length]
  refine sy_seq (sy_if (et_not (et_B (e_cb (ea_cons (e_lcL (js := [7, 8, 10]) (by simp) (e_var rfl ⟨_, .d _, by rw [List.length_map]; omega, fun i acc ms2 => acc = (((glA gs cs ts).take i).map fun e => smB (tieE e)).map .bool ∧ ms2 = ms', ⟨rfl, rfl⟩, ?_, ?_⟩)))))))
  · rintro i e acc ms' hi ⟨rfl, rfl⟩
    rw [List.getElem?_map] at hi
    cases q : (glA gs cs ts)[i]? with
    | none => rw [q] at hi; cases hi
    | some y =>
      rw [q] at hi
      have e1 := (Option.some.inj hi).symm
      subst e1
      have wy := ok.wt y (List.mem_of_getElem? q)
      refine eg_tup rfl (egs_cons (eg_name (egs_cons (eg_name (egs_cons (eg_name (egs_nil ?_)))))))
      refine et_yes ⟨fun _ => e_call (ea_cons (e_var rfl (ea_nil ⟨_, rfl, _, rfl, _, rfl, ?_, rfl⟩))), nofun⟩
      rw [take_snoc q, List.map_append, List.map_append]
      have : wtB (pr (tieE y).2.2) = smB (tieE y) := wtB_sm (sumF_all wy.1).1
      rw [this]
      rfl
  rintro acc ms' ⟨rfl, rfl⟩
  rw [List.length_map, List.take_length]
  have allE : ((glA gs cs ts).map fun e => smB (tieE e)).all id = goodB gs cs ts := by
    unfold goodB dueT
    rw [List.all_map, List.all_map]
    show (glA gs cs ts).all _ = (sA (glA gs cs ts)).all _
    exact ((sA_perm (glA gs cs ts)).all_eq).symm
  refine ea_nil (rc_all ⟨_, _, rfl, .d _, _, rfl, fun h => ?_, fun h => ?_⟩)
  · rw [allE] at h
    exact sy_raise (bad (by simpa using h))
  rw [allE] at h
  have gd : goodB gs cs ts = true := by simpa using h
  obtain ⟨dw, ds⟩ := dueT_web hw hg gr.lt cs gd
  have dr := dueT_rise hw hg cs
  have r := good gd
  refine sy_of (s_next ?_)
  refine sy_of (s_ret (e_tup (ea_cons (e_callX0 (ea_cons (e_op (e_cb (ea_cons (e_var rfl (ea_nil (rc_maxT ⟨gs.map fun (k : Nat) => (k : Int), ?_, ?_, fun y h1 h2 => ?_⟩)))))))))))
  · show [SD.d (.tuple _)] = _
    rw [List.map_map]
    rfl
  · rw [List.length_map, hg]
    exact hw.m1
  rw [mxG_is h1 h2]
  refine e_int (rr_I0 ⟨_, _, rfl, rfl, ?_⟩)
  have e0 : ((mxG gs : Nat) : Int) + 1 = ((mxG gs + 1 : Nat) : Int) := rfl
  rw [e0]
  have pp : (((glA gs cs ts).map fun e => (tieE e, encT (tieE e))).map Prod.fst).Perm (dueT gs cs ts) := by
    rw [List.map_map]
    exact ((sA_perm (glA gs cs ts)).map tieE).symm
  have ps : ((glA gs cs ts).map fun e => (tieE e, encT (tieE e))).map Prod.snd = (glA gs cs ts).map fun e => encT (tieE e) := by
    rw [List.map_map]
    rfl
  have wo := web_ok (x := .list ((glA gs cs ts).map fun e => encT (tieE e))) dw dr ds pp (fun p hp => by
    obtain ⟨e, _, rfl⟩ := List.mem_map.mp hp
    exact ⟨_, .inl rfl, .inl rfl⟩) (by rw [ps]; rfl)
  rw [ps] at wo
  refine ea_cons (e_var rfl (ea_nil ⟨_, _, rfl, _, _, rfl, rfl, fun es he => ?_, fun _ k es e1 e2 => ?_, fun z => ?_⟩))
  · cases he
    rw [List.length_map]
    omega
  · cases e1
    cases e2
    rw [wo.2]
    have fw := filt_wts hw (mkB cs)
    refine ea_cons (e_call (ea_cons (e_call (ea_cons (e_var rfl (ea_cons (e_var rfl (ea_nil ⟨_, _, rfl, m, ts, cs, rfl, rfl, hw, hc, ?_⟩))))))))
    refine ea_nil ⟨_, rfl, (ts.filter (mkB cs)).map wF, rfl, by omega, fw.1, ?_⟩
    exact ea_nil ⟨[_, _], rfl, Nat.le_of_ble_eq_true rfl, r⟩
  · rw [wo.1] at z
    cases z

theorem tell_of {m : Nat} {js : List Jn} {fs gs cs : List Nat} {no : Prop} {yes : List Nat → List Nat → Prop} (gr : GrOk m js gs cs) (can : Can m fs gs cs) (h : yes gs cs) : TellG m js no yes :=
  ⟨fun z => absurd gr.own (z _), fun fs' gs' cs' gr' can' => by
    obtain ⟨e1, e2⟩ := can.uniq gr can' gr'
    rw [← e1, ← e2]
    exact h⟩
theorem tell_no {m : Nat} {js : List Jn} {no : Prop} {yes : List Nat → List Nat → Prop} (hno : ∀ s, ¬ KeepF js s) (h : no) : TellG m js no yes :=
  ⟨fun _ => h, fun _ _ _ gr' _ => absurd gr'.own (hno _)⟩
theorem range_getD {m : Nat} {l : List Nat} (h : l.length = m) : (List.range m).map (fun p => l.getD p 0) = l := by
  refine List.ext_getElem (by simp [h]) fun i h1 h2 => ?_
  simp [List.getD, h2]
def Φ_led_back (C_CutError C_NoWeb C_NoSide C_NoWishes C_TooGreat : Addr) : PhY := phy3 fun a b c ms R Y => ∃ (m : Nat) (ts : List Tie) (x : PyData) (hs : List PyData) (js : List Jn) (bs : List Nat), a = .d (encW m ts) ∧ b = .d x ∧ c = .d (tN bs) ∧ 1 ≤ m ∧ m ≤ 60 ∧
  RowsJ x hs js ∧ js.length ≤ 120 ∧ JOk m js ∧ (∀ y ∈ bs, y < 2) ∧ bs.getD 0 0 = 0 ∧
    TellG m js (R (.d .none) ms) fun gs cs => (∀ p, p < m → gs.getD p 0 < bs.length) ∧ R (.d (tN (sdOf m (fun p => gs.getD p 0) (fun p => cs.getD p 0) bs))) ms
theorem len_led_back {C_CutError C_NoWeb C_NoSide C_NoWishes C_TooGreat : Addr} : ∀ as ms R Y, Φ_led_back C_CutError C_NoWeb C_NoSide C_NoWishes C_TooGreat as ms R Y → as.length = 3 := phy3_len
theorem rd_led_back {K : PySem.W.Frag} {C_CutError C_NoWeb C_NoSide C_NoWishes C_TooGreat : Addr} : ∀ as ms R Y, Φ_led_back C_CutError C_NoWeb C_NoSide C_NoWishes C_TooGreat as ms R Y →
    SY K (t_led_back K C_CutError C_NoWeb C_NoSide C_NoWishes C_TooGreat (Φ_grouped C_CutError C_NoWeb C_NoSide C_NoWishes C_TooGreat) Φ_side_of_bits) (as ++ List.replicate (4 - as.length) .u) ms (fin R) Y := by
  rintro as ms R Y ⟨a, b, c, rfl, m, ts, x, hs, js, bs, rfl, rfl, rfl, m1, m60, hr, hl, hj, hb, h0, no, yes⟩
  unfold t_led_back
  refine sy_seq (sy_asg (ex_callY (eax_of (ea_cons (e_var rfl (ea_cons (e_var rfl (ea_nil ⟨_, _, rfl, m, _, x, rfl, rfl, ?_⟩))))))))
  refine .inr ⟨hs, js, hr, hl, hj, fun hno ns => ?_, fun fs gs cs gr can => ?_⟩
  · refine sy_seq (sy_if (et_test (e_op (e_op (e_var rfl (e_int (rr_ix ⟨_, _, _, .inr (.d _), rfl, atI_nat (j := 0) rfl, e_str (rr_eq ⟨_, _, .d _, .d _, by decide +kernel, by decide +kernel, ?_⟩)⟩)))))))
    rw [ring_str]
    exact ⟨true, rfl, fun _ => sy_of (s_ret (e_non (no hno))), nofun⟩
  obtain ⟨hgl, r⟩ := yes fs gs cs gr can
  refine sy_seq (sy_if (et_test (e_op (e_op (e_var rfl (e_int (rr_ix ⟨_, _, _, .inr (.d _), rfl, atI_nat (j := 0) rfl, e_str (rr_eq ⟨_, _, .d _, .d _, by decide +kernel, by decide +kernel, ?_⟩)⟩)))))))
  rw [groups_str]
  refine ⟨false, rfl, nofun, fun _ => sy_of (s_next ?_)⟩
  obtain ⟨z1, z2⟩ := can.zero m1
  refine sy_of (s_ret (e_call (ea_cons (e_var rfl (ea_cons (e_op (e_var rfl (e_int (rr_ix ⟨_, _, _, .inr (.d _), rfl, atI_nat (j := 1) rfl, ?_⟩)))))))))
  refine ea_cons (e_op (e_var rfl (e_int (rr_ix ⟨_, _, _, .inr (.d _), rfl, atI_nat (j := 2) rfl, ?_⟩))))
  refine ea_cons (e_var rfl (ea_nil ⟨_, _, _, _, rfl, m, ts, fun p => gs.getD p 0, fun p => cs.getD p 0, bs, rfl, ?_, ?_, rfl, m1, m60, hgl, fun p _ => bit_at gr.bit p, hb, ?_, r⟩))
  · rw [range_getD gr.lg]; rfl
  · rw [range_getD gr.lc]; rfl
  · show (bs.getD (gs.getD 0 0) 0 + cs.getD 0 0) % 2 = 0
    rw [z1, z2, h0]

/-! ### groups found by walking -/
/-- the other end is of the same group, with the mark that is due -/
def ClG (gI : List Int) (cs : List Nat) (c p o : Nat) : Prop := 0 ≤ gI.getD o 0 ∧ gI.getD o 0 = gI.getD p 0 ∧ (cs.getD p 0 + cs.getD o 0) % 2 = c
structure Gst (m : Nat) (js : List Jn) (i : Nat) (fs : List Nat) (gI : List Int) (cs ex : List Nat) : Prop where
  lg : gI.length = m
  lc : cs.length = m
  bit : ∀ c ∈ cs, c < 2
  rise : fs.Pairwise (· < ·)
  flt : ∀ f ∈ fs, f < i
  im : i ≤ m
  fst : ∀ (g f : Nat), fs[g]? = some f → gI.getD f 0 = g ∧ cs.getD f 0 = 0
  as : ∀ p, p < m → 0 ≤ gI.getD p 0 → ∃ f, fs[(gI.getD p 0).toNat]? = some f ∧ f ≤ p ∧ ∀ s, KeepF js s → (s f + s p) % 2 = cs.getD p 0
  cl : ∀ p, p < m → 0 ≤ gI.getD p 0 → p ∉ ex → ∀ j ∈ js, (j.1 = p → ClG gI cs j.2.2 p j.2.1) ∧ (j.2.1 = p → ClG gI cs j.2.2 p j.1)
  wg : ∀ p ∈ ex, p < m ∧ 0 ≤ gI.getD p 0 ∧ gI.getD p 0 + 1 = (fs.length : Int)
  un : ∀ p, p < m → gI.getD p 0 < 0 → i ≤ p
  zr : ∀ p, p < m → gI.getD p 0 < 0 → cs.getD p 0 = 0
section
variable {m i : Nat} {js : List Jn} {fs cs ex ex' : List Nat} {gI : List Int}
theorem setI_at {l : List Int} {k p : Nat} {v : Int} (hk : k < l.length) : (l.set k v).getD p 0 = if p = k then v else l.getD p 0 := by
  simp only [List.getD, List.getElem?_set]
  by_cases h : k = p
  · subst h; simp [hk]
  · rw [if_neg h, if_neg fun z => h z.symm]
theorem setN_at {l : List Nat} {k p : Nat} {v : Nat} (hk : k < l.length) : (l.set k v).getD p 0 = if p = k then v else l.getD p 0 := by
  simp only [List.getD, List.getElem?_set]
  by_cases h : k = p
  · subst h; simp [hk]
  · rw [if_neg h, if_neg fun z => h z.symm]
theorem Gst.mem (g : Gst m js i fs gI cs ex) (h : ∀ x, x ∈ ex ↔ x ∈ ex') : Gst m js i fs gI cs ex' :=
  { g with cl := fun p h1 h2 h3 => g.cl p h1 h2 fun z => h3 ((h p).mp z), wg := fun p hp => g.wg p ((h p).mpr hp) }
/-- a point is done with -/
theorem Gst.done {pt : Nat} {ws : List Nat} (g : Gst m js i fs gI cs (pt :: ws)) (h : ∀ j ∈ js, (j.1 = pt → ClG gI cs j.2.2 pt j.2.1) ∧ (j.2.1 = pt → ClG gI cs j.2.2 pt j.1)) : Gst m js i fs gI cs ws :=
  { g with cl := fun p h1 h2 h3 => by
             by_cases e : p = pt
             · subst e; exact h
             · exact g.cl p h1 h2 (by simp [e, h3])
           wg := fun p hp => g.wg p (List.mem_cons_of_mem _ hp) }
/-- a new group begins -/
theorem Gst.start (g : Gst m js i fs gI cs []) (hi : i < m) (hn : gI.getD i 0 < 0) (hb : ∀ p, p < i → 0 ≤ gI.getD p 0) : Gst m js (i + 1) (fs ++ [i]) (gI.set i (fs.length : Nat)) cs [i] := by
  have hc := g.zr i hi hn
  have il : i < gI.length := by rw [g.lg]; exact hi
  have at_ := fun p => setI_at (p := p) (v := ((fs.length : Nat) : Int)) il
  have fne : ∀ f ∈ fs, f ≠ i := fun f hf => by have := g.flt f hf; omega
  have fg : ∀ (k f : Nat), fs[k]? = some f → (fs ++ [i])[k]? = some f := fun k f h => by
    rw [List.getElem?_append_left (List.getElem?_eq_some_iff.mp h).1]; exact h
  refine ⟨by rw [List.length_set]; exact g.lg, g.lc, g.bit, ?_, fun f hf => ?_, hi, fun k f h => ?_, fun p hp h => ?_, fun p hp h hx j hj => ?_, fun p hp => ?_, fun p hp h => ?_, fun p hp h => ?_⟩
  · exact List.pairwise_append.mpr ⟨g.rise, by simp, fun x hx y hy => by simp at hy; rw [hy]; exact g.flt x hx⟩
  · rcases List.mem_append.mp hf with z | z
    · have := g.flt f z; omega
    · simp at z; omega
  · rw [at_ f]
    by_cases hk : k < fs.length
    · rw [List.getElem?_append_left hk] at h
      rw [if_neg (fne f (List.mem_of_getElem? h))]
      exact g.fst k f h
    · have hl := (List.getElem?_eq_some_iff.mp h).1
      simp at hl
      have ek : k = fs.length := by omega
      subst ek
      simp at h
      subst h
      rw [if_pos rfl]
      exact ⟨rfl, hc⟩
  · rw [at_ p] at h ⊢
    by_cases e : p = i
    · subst e
      rw [if_pos rfl]
      refine ⟨p, by simp, Nat.le_refl _, fun s _ => ?_⟩
      rw [hc]
      omega
    · rw [if_neg e] at h ⊢
      obtain ⟨f, h1, h2, h3⟩ := g.as p hp h
      exact ⟨f, fg _ _ h1, h2, h3⟩
  · rw [at_ p] at h
    have e : p ≠ i := by simpa using hx
    rw [if_neg e] at h
    have q := g.cl p hp h (by simp) j hj
    have up : ∀ {c o : Nat}, ClG gI cs c p o → ClG (gI.set i (fs.length : Nat)) cs c p o := fun {c o} ⟨h1, h2, h3⟩ => by
      have : o ≠ i := fun z => by rw [z] at h1; omega
      exact ⟨by rw [at_ o, if_neg this]; exact h1, by rw [at_ o, if_neg this, at_ p, if_neg e]; exact h2, h3⟩
    exact ⟨fun z => up (q.1 z), fun z => up (q.2 z)⟩
  · have e : p = i := by simpa using hp
    subst e
    rw [at_ p, if_pos rfl]
    exact ⟨hi, by omega, by simp⟩
  · rw [at_ p] at h
    by_cases e : p = i
    · rw [if_pos e] at h
      omega
    · rw [if_neg e] at h
      have := g.un p hp h
      omega
  · rw [at_ p] at h
    by_cases e : p = i
    · rw [e]; exact hc
    · rw [if_neg e] at h
      exact g.zr p hp h
/-- the other end of a join that has one end among those in hand is of the group in hand, if it is of any -/
theorem Gst.one (g : Gst m js i fs gI cs ex) {j : Jn} (hj : j ∈ js) {p o : Nat} (hp : p ∈ ex) (ho : o < m) (h0 : 0 ≤ gI.getD o 0) (e : (j.1 = p ∧ j.2.1 = o) ∨ (j.1 = o ∧ j.2.1 = p)) : gI.getD o 0 = gI.getD p 0 := by
  obtain ⟨_, _, h3⟩ := g.wg p hp
  by_cases ho' : o ∈ ex
  · obtain ⟨_, _, h4⟩ := g.wg o ho'
    omega
  · have q := g.cl o ho h0 ho' j hj
    rcases e with ⟨e1, e2⟩ | ⟨e1, e2⟩
    · have := (q.2 e2).2.1
      rw [e1] at this
      exact this.symm
    · have := (q.1 e1).2.1
      rw [e2] at this
      exact this.symm
theorem Keep_end {s : Nat → Nat} (k : KeepF js s) {j : Jn} (hj : j ∈ js) {p o : Nat} (e : (j.1 = p ∧ j.2.1 = o) ∨ (j.1 = o ∧ j.2.1 = p)) : (s p + s o) % 2 = j.2.2 := by
  have := k j hj
  rcases e with ⟨e1, e2⟩ | ⟨e1, e2⟩
  · rw [← e1, ← e2]; exact this
  · rw [← e1, ← e2, Nat.add_comm]; exact this
/-- the marks are as they must be -/
theorem Gst.same (g : Gst m js i fs gI cs ex) {j : Jn} (hj : j ∈ js) {p o : Nat} (hp : p ∈ ex) (ho : o < m) (h0 : 0 ≤ gI.getD o 0) (e : (j.1 = p ∧ j.2.1 = o) ∨ (j.1 = o ∧ j.2.1 = p)) (hb : j.2.2 < 2) (hm : cs.getD o 0 = (cs.getD p 0 + j.2.2) % 2) : ClG gI cs j.2.2 p o := by
  refine ⟨h0, g.one hj hp ho h0 e, ?_⟩
  have := bit_at g.bit p
  omega
/-- or no side keeps the wishes -/
theorem Gst.clash (g : Gst m js i fs gI cs ex) {j : Jn} (hj : j ∈ js) {p o : Nat} (hp : p ∈ ex) (ho : o < m) (h0 : 0 ≤ gI.getD o 0) (e : (j.1 = p ∧ j.2.1 = o) ∨ (j.1 = o ∧ j.2.1 = p)) (hb : j.2.2 < 2) (hm : ¬ cs.getD o 0 = (cs.getD p 0 + j.2.2) % 2) : ∀ s, ¬ KeepF js s := fun s k => by
  obtain ⟨pm, p0, _⟩ := g.wg p hp
  obtain ⟨f1, q1, _, a1⟩ := g.as p pm p0
  obtain ⟨f2, q2, _, a2⟩ := g.as o ho h0
  rw [g.one hj hp ho h0 e, q1] at q2
  cases q2
  have b1 := a1 s k
  have b2 := a2 s k
  have b3 := Keep_end k hj e
  have b4 := bit_at g.bit o
  omega
/-- a point joins the group in hand -/
theorem Gst.join (g : Gst m js i fs gI cs ex) {j : Jn} (hj : j ∈ js) {p o : Nat} (hp : p ∈ ex) (ho : o < m) (h0 : gI.getD o 0 < 0) (e : (j.1 = p ∧ j.2.1 = o) ∨ (j.1 = o ∧ j.2.1 = p)) (hb : j.2.2 < 2) (hi : ∀ f ∈ fs, f ≤ o) :
    Gst m js i fs (gI.set o (gI.getD p 0)) (cs.set o ((cs.getD p 0 + j.2.2) % 2)) (o :: ex) ∧ ClG (gI.set o (gI.getD p 0)) (cs.set o ((cs.getD p 0 + j.2.2) % 2)) j.2.2 p o ∧
      ∀ c q r, 0 ≤ gI.getD q 0 → ClG gI cs c q r → ClG (gI.set o (gI.getD p 0)) (cs.set o ((cs.getD p 0 + j.2.2) % 2)) c q r := by
  obtain ⟨pm, p0, pg⟩ := g.wg p hp
  have ol : o < gI.length := by rw [g.lg]; exact ho
  have oc : o < cs.length := by rw [g.lc]; exact ho
  have ag := fun x => setI_at (p := x) (v := gI.getD p 0) ol
  have ac := fun x => setN_at (p := x) (v := (cs.getD p 0 + j.2.2) % 2) oc
  have ne : ∀ {x : Nat}, 0 ≤ gI.getD x 0 → ¬ x = o := fun h z => by rw [z] at h; omega
  have up : ∀ c q r, 0 ≤ gI.getD q 0 → ClG gI cs c q r → ClG (gI.set o (gI.getD p 0)) (cs.set o ((cs.getD p 0 + j.2.2) % 2)) c q r := fun c q r hq ⟨h1, h2, h3⟩ =>
    ⟨by rw [ag r, if_neg (ne h1)]; exact h1, by rw [ag r, if_neg (ne h1), ag q, if_neg (ne hq)]; exact h2, by rw [ac r, if_neg (ne h1), ac q, if_neg (ne hq)]; exact h3⟩
  have bp := bit_at g.bit p
  refine ⟨⟨by rw [List.length_set]; exact g.lg, by rw [List.length_set]; exact g.lc, fun c hc => ?_, g.rise, g.flt, g.im, fun k f h => ?_, fun x hx h => ?_, fun x hx h hn j' hj' => ?_, fun x hx => ?_, fun x hx h => ?_, fun x hx h => ?_⟩, ⟨?_, ?_, ?_⟩, up⟩
  · rcases List.mem_or_eq_of_mem_set hc with z | z
    · exact g.bit c z
    · omega
  · have h1 := g.fst k f h
    have : ¬ f = o := ne (by rw [h1.1]; omega)
    rw [ag f, if_neg this, ac f, if_neg this]
    exact h1
  · rw [ag x] at h ⊢
    rw [ac x]
    by_cases z : x = o
    · subst z
      simp only [if_pos rfl, ite_true]
      obtain ⟨f, h1, h2, h3⟩ := g.as p pm p0
      refine ⟨f, h1, hi f (List.mem_of_getElem? h1), fun s k => ?_⟩
      have b1 := h3 s k
      have b3 := Keep_end k hj e
      omega
    · rw [if_neg z] at h ⊢
      rw [if_neg z]
      exact g.as x hx h
  · have z : ¬ x = o := fun z => hn (by simp [z])
    rw [ag x, if_neg z] at h
    have q := g.cl x hx h (fun y => hn (List.mem_cons_of_mem _ y)) j' hj'
    exact ⟨fun y => up _ _ _ h (q.1 y), fun y => up _ _ _ h (q.2 y)⟩
  · rcases List.mem_cons.mp hx with z | z
    · subst z
      rw [ag x, if_pos rfl]
      exact ⟨ho, p0, pg⟩
    · obtain ⟨h1, h2, h3⟩ := g.wg x z
      rw [ag x, if_neg (ne h2)]
      exact ⟨h1, h2, h3⟩
  · rw [ag x] at h
    by_cases z : x = o
    · rw [if_pos z] at h; omega
    · rw [if_neg z] at h
      exact g.un x hx h
  · rw [ag x] at h
    by_cases z : x = o
    · rw [if_pos z] at h; omega
    · rw [if_neg z] at h
      rw [ac x, if_neg z]
      exact g.zr x hx h
  · rw [ag o, if_pos rfl]; exact p0
  · rw [ag o, if_pos rfl, ag p, if_neg (ne p0)]
  · rw [ac o, if_pos rfl, ac p, if_neg (ne p0)]
    omega
/-- all have their groups -/
theorem Gst.fin (g : Gst m js i fs gI cs []) (hw : ∀ j ∈ js, jOk m j) (h : ∀ p, p < m → 0 ≤ gI.getD p 0) : GrOk m js (gI.map Int.toNat) cs ∧ Can m fs (gI.map Int.toNat) cs := by
  have at_ : ∀ p, (gI.map Int.toNat).getD p 0 = (gI.getD p 0).toNat := fun p => by
    simp only [List.getD, List.getElem?_map]
    cases gI[p]? <;> rfl
  have can : Can m fs (gI.map Int.toNat) cs := by
    refine ⟨by rw [List.length_map]; exact g.lg, g.lc, g.bit, g.rise, fun f hf => by have := g.flt f hf; have := g.im; omega, fun k f hk => ?_, fun p hp => ?_⟩
    · have := g.fst k f hk
      rw [at_ f, this.1]
      exact ⟨by omega, this.2⟩
    · obtain ⟨f, h1, h2, _⟩ := g.as p hp (h p hp)
      rw [at_ p]
      exact ⟨f, h1, h2⟩
  refine ⟨⟨can.lg, g.lc, fun y hy => ?_, g.bit, fun s => ⟨fun k p q hp hq e => ?_, fun f j hj => ?_⟩⟩, can⟩
  · obtain ⟨p, hp, rfl⟩ := List.getElem_of_mem hy
    have hp' : p < m := by rw [← can.lg]; exact hp
    have h1 := can.glt hp'
    have h2 := can.fl
    have h3 : (gI.map Int.toNat).getD p 0 = (gI.map Int.toNat)[p] := by
      rw [List.getD_eq_getElem?_getD, List.getElem?_eq_getElem hp]
      rfl
    rw [← h3]
    omega
  · rw [at_ p, at_ q] at e
    obtain ⟨f1, q1, _, a1⟩ := g.as p hp (h p hp)
    obtain ⟨f2, q2, _, a2⟩ := g.as q hq (h q hq)
    rw [e, q2] at q1
    cases q1
    have b1 := a1 s k
    have b2 := a2 s k
    have := bit_at g.bit p
    have := bit_at g.bit q
    omega
  · obtain ⟨j1, j2, jn, jb⟩ := hw j hj
    obtain ⟨c1, c2, c3⟩ := (g.cl j.1 j1 (h _ j1) (by simp) j hj).1 rfl
    have := f j.1 j.2.1 j1 j2 (by rw [at_, at_, c2])
    omega
theorem cnt_set : ∀ (l : List Int) (k : Nat) (v : Int), k < l.length → l.getD k 0 < 0 → 0 ≤ v → (l.set k v).countP (fun x => decide (x < 0)) + 1 = l.countP (fun x => decide (x < 0))
  | [], k, _, h, _, _ => by simp at h
  | x :: r, 0, v, _, h, hv => by
    have h : x < 0 := h
    rw [List.set_cons_zero, List.countP_cons, List.countP_cons, decide_eq_true h, decide_eq_false (by omega)]
    simp
  | x :: r, k + 1, v, hk, h, hv => by
    have := cnt_set r k v (by simpa using hk) h hv
    rw [List.set_cons_succ, List.countP_cons, List.countP_cons]
    omega
end

theorem ixN_nat {n j : Nat} (h : j < n) : ixN n (j : Int) = some j := by
  unfold ixN
  simp [h]
abbrev nD (l : List Nat) : List PyData := l.map fun (k : Nat) => PyData.int k
abbrev iD (l : List Int) : List PyData := l.map PyData.int
abbrev cntN (gI : List Int) : Nat := gI.countP fun x => decide (x < 0)
theorem iD_at {l : List Int} {p : Nat} (h : p < l.length) : (iD l)[p]? = some (.int (l.getD p 0)) := by
  rw [List.getElem?_map, List.getElem?_eq_getElem h]
  simp [List.getD, h]
/-- the three lists that the walk changes -/
def s3 (ms : List MD) (gI : List Int) (cs ws : List Nat) : List MD := ms ++ [.l (iD gI)] ++ [.l (nD cs)] ++ [.l (nD ws)]
section
variable {ms : List MD} {gI gI' : List Int} {cs cs' ws ws' : List Nat}
theorem s3_0 : (s3 ms gI cs ws)[ms.length]? = some (.l (iD gI)) := by simp [s3]
theorem s3_1 : (s3 ms gI cs ws)[ms.length + 1]? = some (.l (nD cs)) := by
  unfold s3
  rw [List.append_assoc (ms ++ [_]), List.getElem?_append_right (by simp)]
  simp
theorem s3_2 : (s3 ms gI cs ws)[ms.length + 2]? = some (.l (nD ws)) := by
  unfold s3
  rw [List.getElem?_append_right (by simp)]
  simp
theorem s3_s0 : (s3 ms gI cs ws).set ms.length (.l (iD gI')) = s3 ms gI' cs ws := by
  unfold s3
  simp only [List.append_assoc]
  rw [List.set_append_right _ _ (Nat.le_refl _), Nat.sub_self]
  rfl
theorem s3_s1 : (s3 ms gI cs ws).set (ms.length + 1) (.l (nD cs')) = s3 ms gI cs' ws := by
  unfold s3
  simp only [List.append_assoc]
  rw [List.set_append_right _ _ (by omega), Nat.add_sub_cancel_left]
  rfl
theorem s3_s2 : (s3 ms gI cs ws).set (ms.length + 2) (.l (nD ws')) = s3 ms gI cs ws' := by
  unfold s3
  simp only [List.append_assoc]
  rw [List.set_append_right _ _ (by omega), Nat.add_sub_cancel_left]
  rfl
end
def t_grpStep (K : PySem.W.Frag) : TS := (tSeq (tAsg (tOp rModN (tOp rAddI (tOp (rIx K) (tVar 4) (tVar 3)) (tVar 10)) (tC (.int 2))) (gName 13))
    (tIfS (tAnd (tTest (tOp (rEqD K) (tVar 11) (tVar 3))) (tTest (tOp rLtI (tOp (rIx K) (tVar 2) (tVar 12)) (tC (.int 0))))) (tSeq (tAsg (tOp (rIx K) (tVar 2) (tVar 3)) (gSub (tVar 2) (tVar 12) rSetL))
    (tSeq (tAsg (tVar 13) (gSub (tVar 4) (tVar 12) rSetL))
    (tDrop (tBM K "list" rAppend (tVar 7) (tCons (tVar 12) tNil))))) (tIfS (tAnd (tTest (tOp (rEqD K) (tVar 11) (tVar 3))) (tTest (tOp (rNeD K) (tOp (rIx K) (tVar 4) (tVar 12)) (tVar 13)))) (tRet (tC .non)) tNext)))
/-- one end of a wish is looked at -/
theorem grp_step {K : PySem.W.Frag} {P : Po} {ms : List MD} {m i pt one other : Nat} {js : List Jn} {fs cs ws : List Nat} {gI : List Int} {j : Jn} {a0 a1 a5 a6 a8 a9 o13 : SD} (m60 : m ≤ 60)
    (g : Gst m js i fs gI cs (pt :: ws)) (hj : j ∈ js) (jo : jOk m j) (e : (j.1 = one ∧ j.2.1 = other) ∨ (j.1 = other ∧ j.2.1 = one)) (hw : cntN gI + ws.length ≤ m)
    (no : (∀ s, ¬ KeepF js s) → ∀ gI cs ws, P.rt (.d .none) (s3 ms gI cs ws))
    (nx : ∀ (gI' : List Int) (cs' ws' : List Nat) (o : SD), Gst m js i fs gI' cs' (pt :: ws') → cntN gI' + ws'.length = cntN gI + ws.length → (one = pt → ClG gI' cs' j.2.2 pt other) → (∀ c r, ClG gI cs c pt r → ClG gI' cs' c pt r) →
      P.nx [a0, a1, .m ms.length, .d (.int pt), .m (ms.length + 1), a5, a6, .m (ms.length + 2), a8, a9, .d (.int j.2.2), .d (.int one), .d (.int other), o] (s3 ms gI' cs' ws')) :
    S K (t_grpStep K) [a0, a1, .m ms.length, .d (.int pt), .m (ms.length + 1), a5, a6, .m (ms.length + 2), a8, a9, .d (.int j.2.2), .d (.int one), .d (.int other), o13] (s3 ms gI cs ws) P := by
  obtain ⟨ptm, p0, _⟩ := g.wg pt (by simp)
  obtain ⟨j1, j2, jn, jb⟩ := jo
  have om : one < m ∧ other < m := by
    rcases e with ⟨e1, e2⟩ | ⟨e1, e2⟩ <;> omega
  have lg := g.lg
  have lc := g.lc
  unfold t_grpStep
  refine s_seq (s_asg (e_op (e_op (e_op (e_varm rfl (e_var rfl (rr_ix ⟨_, _, _, .inl (.m s3_1), rfl, atI_nat (natN_at (p := pt) (by omega)), ?_⟩))))))) 
  refine e_var rfl (rr_I0 ⟨_, _, rfl, rfl, e_int (rr_I ⟨_, _, rfl, rfl, by decide, ?_⟩)⟩)
  have em : Int.fmod (((cs.getD pt 0 : Nat) : Int) + ((j.2.2 : Nat) : Int)) 2 = (((cs.getD pt 0 + j.2.2) % 2 : Nat) : Int) := fmod_nat (cs.getD pt 0 + j.2.2) 2
  rw [em]
  refine s_if (et_and (et_test (e_op (e_var rfl (e_var rfl (rr_eq ⟨_, _, .d _, .d _, shaped_int _, shaped_int _, _, rfl, fun h => ?_, fun h => ?_⟩))))))
  · rw [eqvN] at h
    have eo : one = pt := of_decide_eq_true h
    subst eo
    refine et_test (e_op (e_op (e_varm rfl (e_var rfl (rr_ix ⟨_, _, _, .inl (.m s3_0), rfl, atI_nat (iD_at (p := other) (by omega)), e_int (rr_B0 ⟨_, _, rfl, rfl, _, rfl, fun h2 => ?_, fun h2 => ?_⟩)⟩)))))
    · have neg := of_decide_eq_true h2
      obtain ⟨g2, c2, up⟩ := g.join hj (by simp) om.2 neg e jb (fun f hf => by
        have := g.flt f hf
        have := g.un other om.2 neg
        omega)
      have cnt := cnt_set gI other (gI.getD one 0) (by omega) neg p0
      refine s_seq (s_setL (e_op (e_varm rfl (e_var rfl (rr_ix ⟨_, _, _, .inl (.m s3_0), rfl, atI_nat (iD_at (p := one) (by omega)), ?_⟩)))))
      refine ⟨_, rfl, e_varm rfl ⟨_, rfl, e_var rfl ⟨_, other, _, rfl, s3_0, ixN_nat (by rw [List.length_map]; omega), ?_⟩⟩⟩
      rw [← List.map_set, s3_s0]
      refine s_seq (s_setL (e_var rfl ⟨_, rfl, e_varm rfl ⟨_, rfl, e_var rfl ⟨_, other, _, rfl, s3_1, ixN_nat (by rw [List.length_map]; omega), ?_⟩⟩⟩))
      have e3 : (nD cs).set other (.int (((cs.getD one 0 + j.2.2) % 2 : Nat) : Int)) = nD (cs.set other ((cs.getD one 0 + j.2.2) % 2)) := by
        unfold nD
        rw [List.map_set]
      rw [e3, s3_s1]
      refine s_drop (e_append (e_varm rfl ⟨_, rfl, e_var rfl ⟨_, _, rfl, s3_2, by rw [List.length_map]; omega, ?_⟩⟩))
      have e4 : nD ws ++ [.int (other : Nat)] = nD (ws ++ [other]) := by
        unfold nD
        rw [List.map_append]
        rfl
      rw [e4, s3_s2]
      refine nx _ _ _ _ (g2.mem fun x => ?_) ?_ (fun _ => c2) (fun c r h => up c one r p0 h)
      · simp only [List.mem_cons, List.mem_append, List.not_mem_nil, or_false]
        constructor
        · rintro (z | z | z)
          · exact .inr (.inr z)
          · exact .inl z
          · exact .inr (.inl z)
        · rintro (z | z | z)
          · exact .inr (.inl z)
          · exact .inr (.inr z)
          · exact .inl z
      · rw [List.length_append, List.length_singleton]
        unfold cntN at *
        omega
    · have pos : 0 ≤ gI.getD other 0 := by have := of_decide_eq_false h2; omega
      refine s_if (et_and (et_test (e_op (e_var rfl (e_var rfl (rr_eq ⟨_, _, .d _, .d _, shaped_int _, shaped_int _, _, rfl, fun h => ?_, fun h => ?_⟩))))))
      · refine et_test (e_op (e_op (e_varm rfl (e_var rfl (rr_ix ⟨_, _, _, .inl (.m s3_1), rfl, atI_nat (natN_at (p := other) (by omega)), ?_⟩)))))
        refine e_var rfl (rr_ne ⟨_, _, .d _, .d _, shaped_int _, shaped_int _, ?_⟩)
        rw [eqvN]
        refine ⟨_, rfl, fun h3 => ?_, fun h3 => ?_⟩
        · have ne : ¬ cs.getD other 0 = (cs.getD one 0 + j.2.2) % 2 := by simpa using h3
          exact s_ret (e_non (no (g.clash hj (by simp) om.2 pos e jb ne) _ _ _))
        · have eq : cs.getD other 0 = (cs.getD one 0 + j.2.2) % 2 := by simpa using h3
          exact s_next (nx _ _ _ _ g rfl (fun _ => g.same hj (by simp) om.2 pos e jb eq) (fun _ _ h => h))
      · rw [eqvN, decide_eq_true rfl] at h
        cases h
  · rw [eqvN] at h
    have eo : ¬ one = pt := of_decide_eq_false h
    refine ⟨nofun, fun _ => ?_⟩
    refine s_if (et_and (et_test (e_op (e_var rfl (e_var rfl (rr_eq ⟨_, _, .d _, .d _, shaped_int _, shaped_int _, _, rfl, fun h => ?_, fun h => ?_⟩))))))
    · rw [eqvN, decide_eq_false eo] at h
      cases h
    · exact ⟨nofun, fun _ => s_next (nx _ _ _ _ g rfl (fun z => absurd z eo) (fun _ _ h => h))⟩

def Φ__law_groups : Ph := ph2 fun a b ms R => ∃ (m : Nat) (js : List Jn), a = .d (.int m) ∧ b = .d (.list (js.map encJ)) ∧ (∀ j ∈ js, jOk m j) ∧ 1 ≤ m ∧ m ≤ 60 ∧
  TellG m js (R (.d .none) ms) fun gs cs => R (.d (.tuple [.list (nD gs), .list (nD cs)])) ms
theorem len__law_groups : ∀ as ms R, Φ__law_groups as ms R → as.length = 2 := ph2_len
theorem rd__law_groups {K : PySem.W.Frag} : ∀ as ms R, Φ__law_groups as ms R → S K (t__law_groups K) (as ++ List.replicate (14 - as.length) .u) ms (fin R) := by
  rintro as ms R ⟨a, b, rfl, m, js, rfl, rfl, hj, m1, m60, no, yes⟩
  unfold t__law_groups
  refine s_assoc (s_assoc (s_assoc (s_mid (fun ds' ms' => ∃ (fs gs cs : List Nat), GrOk m js gs cs ∧ Can m fs gs cs ∧ ms' = ms ∧ ds'[2]? = some (.d (.list (nD gs))) ∧ ds'[4]? = some (.d (.list (nD cs)))) ?_ ?_)))
  · refine s_back (s_back ?_)
    refine s_new (e_lcR (js := [3]) (by simp) (ea_cons (e_var rfl (ea_nil ⟨_, rfl, by omega, fun i acc ms' => acc = iD (List.replicate i (-1)) ∧ ms' = ms, ⟨rfl, rfl⟩, ?_, ?_⟩))))
    · rintro i acc _ hi ⟨rfl, rfl⟩
      refine eg_name (et_yes ⟨fun _ => e_un (e_int (ru_I ⟨_, rfl, _, rfl, ?_, rfl⟩)), nofun⟩)
      unfold iD
      rw [List.replicate_succ', List.map_append]
      rfl
    rintro acc _ ⟨rfl, rfl⟩
    refine ⟨_, rfl, ?_⟩
    refine s_new (e_lcR (js := [3]) (by simp) (ea_cons (e_var rfl (ea_nil ⟨_, rfl, by omega, fun i acc ms' => acc = nD (List.replicate i 0) ∧ ms' = _, ⟨rfl, rfl⟩, ?_, ?_⟩))))
    · rintro i acc _ hi ⟨rfl, rfl⟩
      refine eg_name (et_yes ⟨fun _ => e_int ⟨_, rfl, ?_, rfl⟩, nofun⟩)
      unfold nD
      rw [List.replicate_succ', List.map_append]
      rfl
    rintro acc _ ⟨rfl, rfl⟩
    rename_i ms
    refine ⟨_, rfl, ?_⟩
    have l1 : (ms ++ [MD.l (iD (List.replicate ((m : Nat) : Int).toNat (-1)))]).length = ms.length + 1 := by simp
    rw [l1]
    refine s_seq (s_asg (e_int ?_))
    have z0 : ∀ p, (List.replicate m (0 : Nat)).getD p 0 = 0 := fun p => by
      simp only [List.getD, List.getElem?_replicate]
      split <;> rfl
    refine s_forR (js := [6]) (ea_cons (e_var rfl (ea_nil ⟨_, rfl, by omega, fun i ds' ms' => ∃ (fs cs : List Nat) (gI : List Int) (o3 o6 o7 o8 o9 o10 o11 o12 o13 : SD), Gst m js i fs gI cs [] ∧ (∀ p, p < i → 0 ≤ gI.getD p 0) ∧
      ds' = [.d (.int m), .d (.list (js.map encJ)), .m ms.length, o3, .m (ms.length + 1), .d (.int fs.length), o6, o7, o8, o9, o10, o11, o12, o13] ∧ ms' = ms ++ [.l (iD gI)] ++ [.l (nD cs)],
      ⟨[], List.replicate m 0, List.replicate m (-1), _, _, _, _, _, _, _, _, _, ?_, ?_, rfl, rfl⟩, ?_, ?_⟩)))
    · have neg : ∀ p, p < m → (List.replicate m (-1 : Int)).getD p 0 = -1 := fun p hp => by simp [List.getD, hp]
      refine ⟨by simp, by simp, fun c hc => by rw [(List.mem_replicate.mp hc).2]; omega, .nil, nofun, by omega, fun g f h => by simp at h, fun p hp h => ?_, fun p hp h => ?_, nofun, fun p hp h => by omega, fun p hp h => z0 p⟩
      · rw [neg p hp] at h; omega
      · rw [neg p hp] at h; omega
    · intro p hp; omega
    · rintro i ds' ms' hi ⟨fs, cs, gI, o3, o6, o7, o8, o9, o10, o11, o12, o13, g, hb, rfl, rfl⟩
      have him : i < m := by omega
      have lg := g.lg
      have a0 : (ms ++ [MD.l (iD gI)] ++ [MD.l (nD cs)])[ms.length]? = some (.l (iD gI)) := by simp
      refine eg_name (s_if (et_test (e_op (e_op (e_varm rfl (e_var rfl (rr_ix ⟨_, _, _, .inl (.m a0), rfl, atI_nat (iD_at (p := i) (by omega)), e_int (rr_B0 ⟨_, _, rfl, rfl, _, rfl, fun h => ?_, fun h => ?_⟩)⟩)))))))
      · have neg := of_decide_eq_true h
        have g1 := g.start him neg hb
        have cnt := cnt_set gI i (fs.length : Nat) (by omega) neg (by omega)
        have cle : gI.countP (fun x => decide (x < 0)) ≤ gI.length := List.countP_le_length
        refine s_seq (s_setL (e_var rfl ⟨_, rfl, e_varm rfl ⟨_, rfl, e_var rfl ⟨_, i, _, rfl, a0, ixN_nat (by rw [List.length_map]; omega), ?_⟩⟩⟩))
        have st : (ms ++ [MD.l (iD gI)] ++ [MD.l (nD cs)]).set ms.length (.l ((iD gI).set i (.int (fs.length : Nat)))) = ms ++ [.l (iD (gI.set i (fs.length : Nat)))] ++ [.l (nD cs)] := by
          unfold iD
          rw [List.map_set]
          simp only [List.append_assoc]
          rw [List.set_append_right _ _ (Nat.le_refl _), Nat.sub_self]
          rfl
        rw [st]
        refine s_seq (s_augI rfl (e_int ⟨_, rfl, ?_⟩))
        refine s_new (e_lst (ea_cons (e_var rfl (ea_nil ⟨[_], rfl, Nat.le_of_ble_eq_true rfl, _, rfl, ?_⟩))))
        have l2 : (ms ++ [MD.l (iD (gI.set i (fs.length : Nat)))] ++ [MD.l (nD cs)]).length = ms.length + 2 := by simp
        rw [l2]
        have ec : ((fs.length : Nat) : Int) + 1 = (((fs ++ [i]).length : Nat) : Int) := by simp
        refine s_while (fun q ds' ms' => ∃ (cs ws : List Nat) (gI : List Int) (o3 o8 o9 o10 o11 o12 o13 : SD), Gst m js (i + 1) (fs ++ [i]) gI cs ws ∧ q = cntN gI + ws.length ∧ q ≤ m ∧
          ds' = [.d (.int m), .d (.list (js.map encJ)), .m ms.length, o3, .m (ms.length + 1), .d (.int (fs ++ [i]).length), .d (.int i), .m (ms.length + 2), o8, o9, o10, o11, o12, o13] ∧ ms' = s3 ms gI cs ws)
          (cntN (gI.set i (fs.length : Nat)) + 1) ⟨cs, [i], _, o3, o8, o9, o10, o11, o12, o13, g1, rfl, by unfold cntN; omega, ?_, rfl⟩ ?_
        · rw [← ec]
          rfl
        rintro q ds' ms' ⟨cs, ws, gI, o3, o8, o9, o10, o11, o12, o13, g, rfl, hq, rfl, rfl⟩
        have shw : SeqAt.shaped (.list (nD ws)) = true := by
          have : nD ws = (ws.map fun (k : Nat) => (k : Int)).map .int := by rw [List.map_map]; rfl
          rw [this]
          exact Shp.ok (Shp.lst (n := 0) fun e he => by
            obtain ⟨k, _, rfl⟩ := List.mem_map.mp he
            exact .int _) (by decide)
        refine et_test (e_op (e_varm rfl (e_lst (ea_nil ⟨[], rfl, Nat.zero_le _, rr_ne ⟨_, _, .m s3_2, .d _, shw, rfl, _, rfl, fun h => ?_, fun h => ?_⟩⟩))))
        · rcases List.eq_nil_or_concat ws with rfl | ⟨ws, pt, rfl⟩
          · cases h
          rw [List.concat_eq_append] at *
          have e1 : nD (ws ++ [pt]) = nD ws ++ [.int (pt : Nat)] := by
            unfold nD
            rw [List.map_append]
            rfl
          have g : Gst m js (i + 1) (fs ++ [i]) gI cs (pt :: ws) := g.mem fun x => by simp [or_comm]
          have hq1 : cntN gI + ws.length + 1 ≤ m := by rw [List.length_append] at hq; exact hq
          refine s_seq (s_asg (e_pop (e_varm rfl ⟨_, nD ws, .int (pt : Nat), rfl, by rw [s3_2, e1], ?_⟩)))
          rw [s3_s2]
          refine s_forL (js := [8, 9, 10]) (e_var rfl ⟨_, .d _, fun k ds' ms' => ∃ (cs ws' : List Nat) (gI' : List Int) (o8 o9 o10 o11 o12 o13 : SD), Gst m js (i + 1) (fs ++ [i]) gI' cs (pt :: ws') ∧ cntN gI' + ws'.length = cntN gI + ws.length ∧
            (∀ j ∈ js.take k, (j.1 = pt → ClG gI' cs j.2.2 pt j.2.1) ∧ (j.2.1 = pt → ClG gI' cs j.2.2 pt j.1)) ∧
            ds' = [.d (.int m), .d (.list (js.map encJ)), .m ms.length, .d (.int pt), .m (ms.length + 1), .d (.int (fs ++ [i]).length), .d (.int i), .m (ms.length + 2), o8, o9, o10, o11, o12, o13] ∧ ms' = s3 ms gI' cs ws',
            ⟨cs, ws, gI, _, _, _, _, _, _, g, rfl, nofun, rfl, rfl⟩, ?_, ?_⟩)
          · rintro k e ds' ms' hk ⟨cs1, ws1, gI1, o8, o9, o10, o11, o12, o13, g1, c1, d1, rfl, rfl⟩
            rw [List.getElem?_map] at hk
            cases qj : js[k]? with
            | none => rw [qj] at hk; cases hk
            | some j =>
              rw [qj] at hk
              cases hk
              have jm := List.mem_of_getElem? qj
              have jo := hj j jm
              refine eg_tup rfl (egs_cons (eg_name (egs_cons (eg_name (egs_cons (eg_name (egs_nil ?_)))))))
              refine s_forL (js := [11, 12]) (e_lst (ea_cons (e_tup (ea_cons (e_var rfl (ea_cons (e_var rfl (ea_nil ⟨[_, _], rfl, Nat.le_of_ble_eq_true rfl, ?_⟩)))))))) 
              refine ea_cons (e_tup (ea_cons (e_var rfl (ea_cons (e_var rfl (ea_nil ⟨[_, _], rfl, Nat.le_of_ble_eq_true rfl, ?_⟩))))))
              refine ea_nil ⟨[_, _], rfl, Nat.le_of_ble_eq_true rfl, _, .d _, fun d ds' ms' => ∃ (cs ws' : List Nat) (gI' : List Int) (o11 o12 o13 : SD), Gst m js (i + 1) (fs ++ [i]) gI' cs (pt :: ws') ∧ cntN gI' + ws'.length = cntN gI + ws.length ∧
                (∀ j ∈ js.take k, (j.1 = pt → ClG gI' cs j.2.2 pt j.2.1) ∧ (j.2.1 = pt → ClG gI' cs j.2.2 pt j.1)) ∧ (1 ≤ d → j.1 = pt → ClG gI' cs j.2.2 pt j.2.1) ∧ (2 ≤ d → j.2.1 = pt → ClG gI' cs j.2.2 pt j.1) ∧
                ds' = [.d (.int m), .d (.list (js.map encJ)), .m ms.length, .d (.int pt), .m (ms.length + 1), .d (.int (fs ++ [i]).length), .d (.int i), .m (ms.length + 2), .d (.int j.1), .d (.int j.2.1), .d (.int j.2.2), o11, o12, o13] ∧ ms' = s3 ms gI' cs ws',
                ⟨cs1, ws1, gI1, _, _, _, g1, c1, d1, (fun z => by omega), (fun z => by omega), rfl, rfl⟩, ?_, ?_⟩
              · have noo : (∀ s, ¬ KeepF js s) → ∀ gI cs ws, (Po.frz (Po.frz (Po.frz { fin R with nx := fun ds' ms' => ∃ (fs gs cs : List Nat), GrOk m js gs cs ∧ Can m fs gs cs ∧ ms' = ms ∧ ds'[2]? = some (.d (.list (nD gs))) ∧ ds'[4]? = some (.d (.list (nD cs))) } ms.length) (ms.length + 1)) (ms.length + 2)).rt (.d .none) (s3 ms gI cs ws) := fun hno gI cs ws =>
                  ⟨ms ++ [.l (iD gI)] ++ [.l (nD cs)], nD ws, rfl, by simp, ms ++ [.l (iD gI)], nD cs, rfl, by simp, ms, iD gI, rfl, rfl, no hno⟩
                rintro d e ds' ms' hd ⟨cs2, ws2, gI2, o11, o12, o13, g2, c2, d2, f1, f2, rfl, rfl⟩
                have hdl : d < 2 := (List.getElem?_eq_some_iff.mp hd).1
                have cases2 : d = 0 ∨ d = 1 := by omega
                rcases cases2 with rfl | rfl
                · have ee := (Option.some.inj hd).symm
                  subst ee
                  refine eg_tup rfl (egs_cons (eg_name (egs_cons (eg_name (egs_nil ?_)))))
                  refine grp_step (one := j.1) (other := j.2.1) m60 g2 jm jo (.inl ⟨rfl, rfl⟩) (by omega) noo fun gI' cs' ws' o g' c' cl up => ?_
                  exact ⟨cs', ws', gI', _, _, o, g', by omega, fun j' hj' => ⟨fun z => up _ _ ((d2 j' hj').1 z), fun z => up _ _ ((d2 j' hj').2 z)⟩, fun _ => cl, fun z => by omega, rfl, rfl⟩
                · have ee := (Option.some.inj hd).symm
                  subst ee
                  refine eg_tup rfl (egs_cons (eg_name (egs_cons (eg_name (egs_nil ?_)))))
                  refine grp_step (one := j.2.1) (other := j.1) m60 g2 jm jo (.inr ⟨rfl, rfl⟩) (by omega) noo fun gI' cs' ws' o g' c' cl up => ?_
                  exact ⟨cs', ws', gI', _, _, o, g', by omega, fun j' hj' => ⟨fun z => up _ _ ((d2 j' hj').1 z), fun z => up _ _ ((d2 j' hj').2 z)⟩, fun _ z => up _ _ (f1 (Nat.le_refl _) z), fun _ => cl, rfl, rfl⟩
              · rintro ds' ms' ⟨cs2, ws2, gI2, o11, o12, o13, g2, c2, d2, f1, f2, rfl, rfl⟩
                refine ⟨cs2, ws2, gI2, _, _, _, _, _, _, g2, c2, fun j' hj' => ?_, rfl, rfl⟩
                rw [take_snoc qj] at hj'
                rcases List.mem_append.mp hj' with z | z
                · exact d2 j' z
                · simp only [List.mem_singleton] at z
                  subst z
                  exact ⟨f1 (Nat.le_add_left 1 1), f2 (Nat.le_refl 2)⟩
          · rintro ds' ms' ⟨cs1, ws1, gI1, o8, o9, o10, o11, o12, o13, g1, c1, d1, rfl, rfl⟩
            rw [List.length_map, List.take_length] at d1
            refine ⟨cntN gI1 + ws1.length, by rw [c1, List.length_append]; simp, cs1, ws1, gI1, _, _, _, _, _, _, _, g1.done d1, rfl, by omega, rfl, rfl⟩
        · have w0 : ws = [] := by
            cases ws with
            | nil => rfl
            | cons x r => simp [PyData.eqv, PyData.eqvAll] at h
          subst w0
          refine ⟨ms ++ [.l (iD gI)] ++ [.l (nD cs)], nD [], rfl, by simp, fs ++ [i], cs, gI, frzS (ms.length + 2) [] o3, .d (.int i), .d (.list []), frzS (ms.length + 2) [] o8, frzS (ms.length + 2) [] o9, frzS (ms.length + 2) [] o10, frzS (ms.length + 2) [] o11, frzS (ms.length + 2) [] o12, frzS (ms.length + 2) [] o13, g, fun p hp => ?_, ?_, rfl⟩
          · apply Classical.byContradiction
            intro z
            have := g.un p (by omega) (by omega)
            omega
          · have n1 : ¬ ms.length = ms.length + 2 := by omega
            have n2 : ¬ ms.length + 1 = ms.length + 2 := by omega
            simp only [List.map_cons, List.map_nil]
            have f0 : frzS (ms.length + 2) [] (.m ms.length) = .m ms.length := if_neg n1
            have f1 : frzS (ms.length + 2) [] (.m (ms.length + 1)) = .m (ms.length + 1) := if_neg n2
            have f2 : frzS (ms.length + 2) [] (.m (ms.length + 2)) = .d (.list []) := if_pos rfl
            rw [f0, f1, f2]
            rfl
      · have pos : 0 ≤ gI.getD i 0 := by have := of_decide_eq_false h; omega
        refine s_next ⟨fs, cs, gI, _, _, _, _, _, _, _, _, _, { g with flt := fun f hf => by have := g.flt f hf; omega, im := by omega, un := fun p hp h => ?_ }, fun p hp => ?_, rfl, rfl⟩
        · have := g.un p hp h
          apply Classical.byContradiction
          intro z
          have : p = i := by omega
          rw [this] at h
          omega
        · by_cases z : p = i
          · rw [z]; exact pos
          · exact hb p (by omega)
    · rintro ds' ms' ⟨fs, cs, gI, o3, o6, o7, o8, o9, o10, o11, o12, o13, g, hb, rfl, rfl⟩
      have g : Gst m js m fs gI cs [] := g
      obtain ⟨gr, can⟩ := g.fin hj hb
      have eg : iD gI = nD (gI.map Int.toNat) := by
        unfold iD nD
        rw [List.map_map]
        refine List.map_congr_left fun x hx => ?_
        obtain ⟨p, hp, rfl⟩ := List.getElem_of_mem hx
        have h1 := hb p (by have := g.lg; show p < m; omega)
        rw [List.getD_eq_getElem?_getD, List.getElem?_eq_getElem hp] at h1
        have h1 : 0 ≤ gI[p] := h1
        show PyData.int gI[p] = PyData.int ((gI[p]).toNat : Int)
        rw [Int.toNat_of_nonneg h1]
      refine ⟨ms ++ [.l (iD gI)], nD cs, rfl, by simp, ms, iD gI, rfl, rfl, fs, gI.map Int.toNat, cs, gr, can, rfl, ?_, ?_⟩
      · have n1 : ¬ ms.length = ms.length + 1 := by omega
        show some (frzS ms.length (iD gI) (frzS (ms.length + 1) (nD cs) (.m ms.length))) = _
        have f0 : frzS (ms.length + 1) (nD cs) (.m ms.length) = .m ms.length := if_neg n1
        have f1 : frzS ms.length (iD gI) (.m ms.length) = .d (.list (iD gI)) := if_pos rfl
        rw [f0, f1, eg]
      · show some (frzS ms.length (iD gI) (frzS (ms.length + 1) (nD cs) (.m (ms.length + 1)))) = _
        have f0 : frzS (ms.length + 1) (nD cs) (.m (ms.length + 1)) = .d (.list (nD cs)) := if_pos rfl
        rw [f0]
        rfl
  · rintro ds' ms' ⟨fs, gs, cs, gr, can, rfl, h2, h4⟩
    exact s_ret (e_tup (ea_cons (e_var h2 (ea_cons (e_var h4 (ea_nil ⟨[_, _], rfl, Nat.le_of_ble_eq_true rfl, yes fs gs cs gr can⟩))))))

theorem fm_ex (z : Int) {m : Int} (h : 0 < m) : ∃ b : Nat, (b : Int) < m ∧ Int.fmod z m = (b : Int) := by
  have := fmod_bd (a := z) (b := m) h
  exact ⟨(Int.fmod z m).toNat, by omega, by omega⟩
def Φ__law_wishes : Ph := ph2 fun a b ms R => ∃ (m k : Nat) (ns : List Int), a = .d (.int m) ∧ b = .m k ∧ ms[k]? = some (.l (ns.map .int)) ∧ 1 ≤ m ∧ m ≤ 60 ∧
  ∀ (js : List Jn) (ns' : List Int), (∀ j ∈ js, jOk m j) → js.length ≤ 5 → R (.f (js.map encJ)) (ms.set k (.l (ns'.map .int)))
theorem len__law_wishes : ∀ as ms R, Φ__law_wishes as ms R → as.length = 2 := ph2_len
theorem rd__law_wishes {K : PySem.W.Frag} : ∀ as ms R, Φ__law_wishes as ms R → S K (t__law_wishes K Φ__law_take) (as ++ List.replicate (9 - as.length) .u) ms (fin R) := by
  rintro as ms R ⟨a, b, rfl, m, k, ns, rfl, rfl, hk, m1, m60, r⟩
  have hkl : k < ms.length := (List.getElem?_eq_some_iff.mp hk).1
  have ln : ∀ x : MD, (ms.set k x).length = ms.length := fun x => List.length_set
  have at2 : ∀ x y : MD, (ms.set k x ++ [y])[k]? = some x := fun x y => by rw [List.getElem?_append_left (by rw [ln]; exact hkl)]; exact List.getElem?_set_self hkl
  have st2 : ∀ x y z : MD, (ms.set k x ++ [y]).set k z = ms.set k z ++ [y] := fun x y z => by rw [List.set_append_left _ _ (by rw [ln]; exact hkl), List.set_set]
  have la : ∀ x y : MD, (ms.set k x ++ [y])[ms.length]? = some y := fun x y => by rw [List.getElem?_append_right (by rw [ln]; exact Nat.le_refl _), ln, Nat.sub_self]; rfl
  have sl : ∀ x y z : MD, (ms.set k x ++ [y]).set ms.length z = ms.set k x ++ [z] := fun x y z => by rw [List.set_append_right _ _ (by rw [ln]; exact Nat.le_refl _), ln, Nat.sub_self]; rfl
  have ms0 : ms = ms.set k (.l (ns.map .int)) := by
    refine List.ext_getElem? fun i => ?_
    rw [List.getElem?_set]
    by_cases z : k = i
    · subst z; rw [if_pos rfl, if_pos hkl, hk]
    · rw [if_neg z]
  have fz : ∀ (s : SD) (x : MD) (es : List PyData), R (frzR ms.length es s) (ms.set k x) → ∃ ms1 es', ms.set k x ++ [MD.l es] = ms1 ++ [.l es'] ∧ ms1.length = ms.length ∧ R (frzR ms.length es' s) ms1 := fun s x es h => ⟨_, es, rfl, ln x, h⟩
  unfold t__law_wishes
  refine s_new (e_lst (ea_nil ⟨[], rfl, Nat.zero_le _, _, rfl, ?_⟩))
  have e0 : ms ++ [MD.l []] = ms.set k (.l (ns.map .int)) ++ [MD.l (([] : List Jn).map encJ)] := by rw [← ms0]; rfl
  rw [e0]
  refine s_seq (s_asg (e_call (ea_cons (e_varm rfl (ea_nil ⟨_, rfl, k, ns, rfl, at2 _ _, fun hid ns1 => ?_⟩)))))
  rw [st2]
  refine s_seq (s_if (et_test (e_op (e_var rfl (e_int (rr_B0 ⟨_, _, rfl, rfl, _, rfl, fun h => ?_, fun h => ?_⟩))))))
  · refine s_ret (e_varm rfl (fz _ _ _ ?_))
    have : frzR ms.length (([] : List Jn).map encJ) (.m ms.length) = .f (([] : List Jn).map encJ) := if_pos rfl
    rw [this]
    exact r [] ns1 nofun (Nat.zero_le _)
  have m2 : 2 ≤ m := by have := of_decide_eq_false h; omega
  refine s_next ?_
  refine s_seq (s_forR (js := [4]) (ea_cons (e_op (e_call (ea_cons (e_varm rfl (ea_nil ⟨_, rfl, k, ns1, rfl, at2 _ _, fun z ns2 => e_int (rr_I ⟨_, _, rfl, rfl, by decide, ?_⟩)⟩)))))))
  rw [st2]
  obtain ⟨c, hc, ec⟩ := fm_ex z (m := 6) (by decide)
  rw [ec]
  refine ea_nil ⟨_, rfl, by omega, fun i ds' ms' => ∃ (js : List Jn) (ns' : List Int) (o4 o5 o6 o7 o8 : SD), (∀ j ∈ js, jOk m j) ∧ js.length ≤ i ∧ ds' = [.d (.int m), .m k, .m ms.length, .d (.int hid), o4, o5, o6, o7, o8] ∧ ms' = ms.set k (.l (ns'.map .int)) ++ [.l (js.map encJ)],
    ⟨[], ns2, _, _, _, _, _, nofun, Nat.zero_le _, rfl, rfl⟩, ?_, ?_⟩
  · rintro i ds' ms' hi ⟨js, ns3, o4, o5, o6, o7, o8, hj, hl, rfl, rfl⟩
    have hi6 : i < 6 := by omega
    refine eg_name ?_
    refine s_seq (s_asg (e_call (ea_cons (e_varm rfl (ea_nil ⟨_, rfl, k, ns3, rfl, at2 _ _, fun nu ns4 => ?_⟩)))))
    rw [st2]
    refine s_seq (s_asg (e_op (e_var rfl (e_var rfl (rr_I ⟨_, _, rfl, rfl, by omega, ?_⟩)))))
    obtain ⟨a, ha, ea⟩ := fm_ex nu (m := (m : Int)) (by omega)
    rw [ea]
    refine s_seq (s_asg (e_op (e_op (e_op (e_var rfl (e_int (rr_I0 ⟨_, _, rfl, rfl, ?_⟩)))))))
    refine e_op (e_op (e_var rfl (e_var rfl (rr_I ⟨_, _, rfl, rfl, ⟨by omega, Bd.mono (Bd.of (n := 64) (by have : ((m : Nat) : Int).natAbs = m := rfl; rw [this]; exact Nat.lt_of_le_of_lt m60 (by decide))) (by decide)⟩, ?_⟩))))
    refine e_op (e_var rfl (e_int (rr_I0 ⟨_, _, rfl, rfl, ?_⟩)))
    refine rr_I ⟨_, _, rfl, rfl, by omega, ?_⟩
    obtain ⟨d, hd, ed⟩ := fm_ex (nu.fdiv (m : Int)) (m := (m : Int) - 1) (by omega)
    rw [ed]
    refine rr_I0 ⟨_, _, rfl, rfl, e_var rfl (rr_I ⟨_, _, rfl, rfl, by omega, ?_⟩)⟩
    obtain ⟨b, hb, eb⟩ := fm_ex ((a : Int) + 1 + (d : Int)) (m := (m : Int)) (by omega)
    rw [eb]
    have hab : a ≠ b := fun y => by
      subst y
      have e1 : Int.fmod ((a : Int) + 1 + (d : Int)) (m : Int) = (((a + 1 + d) % m : Nat) : Int) := fmod_nat (a + 1 + d) m
      rw [e1] at eb
      have e2 : (a + 1 + d) % m = a := by omega
      have h1 : a < m := by omega
      have h2 : d + 1 < m := by omega
      by_cases h3 : a + 1 + d < m
      · rw [Nat.mod_eq_of_lt h3] at e2
        omega
      · rw [Nat.mod_eq_sub_mod (by omega), Nat.mod_eq_of_lt (by omega)] at e2
        omega
    refine s_seq (s_asg (e_op (e_op (e_op (e_var rfl (e_var rfl (rr_I ⟨_, _, rfl, rfl, by omega, ?_⟩)))))))
    refine e_op (e_var rfl (e_var rfl (rr_I ⟨_, _, rfl, rfl, by omega, ?_⟩)))
    refine rr_I0 ⟨_, _, rfl, rfl, e_int (rr_I ⟨_, _, rfl, rfl, by decide, ?_⟩)⟩
    obtain ⟨p, hp, ep⟩ := fm_ex (hid / 2 ^ ((a : Int)).toNat + hid / 2 ^ ((b : Int)).toNat) (m := 2) (by decide)
    have gen : ∀ x : Int, ∃ p : Nat, (p : Int) < 2 ∧ Int.fmod x 2 = (p : Int) := fun x => fm_ex x (by decide)
    refine s_mid (fun ds' ms' => ∃ p : Nat, p < 2 ∧ ds' = [.d (.int m), .m k, .m ms.length, .d (.int hid), .d (.int (i : Nat)), .d (.int nu), .d (.int (a : Nat)), .d (.int (b : Nat)), .d (.int (p : Nat))] ∧ ms' = ms.set k (.l (ns4.map .int)) ++ [.l (js.map encJ)]) ?_ ?_
    · refine s_if (et_test (e_op (e_op (e_op (e_var rfl (e_int (rr_I ⟨_, _, rfl, rfl, ⟨by decide, Bd.mono (Bd.of (n := 64) (by decide)) (by decide)⟩, ?_⟩)))))))
      refine e_int (rr_I ⟨_, _, rfl, rfl, by decide, e_int (rr_eq ⟨_, _, .d _, .d _, shaped_int _, shaped_int _, _, rfl, fun _ => ?_, fun _ => ?_⟩)⟩)
      · rw [ep]
        refine s_asg (e_op (e_int (e_var rfl (rr_I0 ⟨_, _, rfl, rfl, 1 - p, by omega, ?_, rfl⟩))))
        show _ = [_, _, _, _, _, _, _, _, SD.d (.int ((1 - p : Nat) : Int))]
        have : ((1 - p : Nat) : Int) = 1 - (p : Int) := by omega
        rw [this]
        rfl
      · rw [ep]
        exact s_next ⟨p, by omega, rfl, rfl⟩
    · rintro ds' ms' ⟨p, hp, rfl, rfl⟩
      refine s_drop (e_append (e_varm rfl ⟨_, rfl, e_tup (ea_cons (e_var rfl (ea_cons (e_var rfl (ea_cons (e_var rfl (ea_nil ⟨[_, _, _], rfl, Nat.le_of_ble_eq_true rfl, _, _, rfl, la _ _, by rw [List.length_map]; omega, ?_⟩)))))))⟩))
      rw [sl]
      refine ⟨js ++ [(a, b, p)], ns4, _, _, _, _, _, fun j hj' => ?_, by simp; omega, rfl, ?_⟩
      · rcases List.mem_append.mp hj' with z | z
        · exact hj j z
        · simp only [List.mem_singleton] at z
          subst z
          exact ⟨by show a < m; omega, by show b < m; omega, hab, hp⟩
      · rw [List.map_append]
        rfl
  · rintro ds' ms' ⟨js, ns3, o4, o5, o6, o7, o8, hj, hl, rfl, rfl⟩
    refine s_ret (e_varm rfl (fz _ _ _ ?_))
    have : frzR ms.length (js.map encJ) (.m ms.length) = .f (js.map encJ) := if_pos rfl
    rw [this]
    exact r js ns3 hj (by omega)

theorem pair_lt (i j i' j' : Int) : PySem.W.dataLt (.tuple [.int i, .int j]) (.tuple [.int i', .int j']) = if i = i' then decide (j < j') else decide (i < i') := by
  rw [PySem.W.dataLt_tuple, PySem.W.dataLt_cons (by simp [PySem.W.alike]), PySem.W.dataLt_cons (by simp [PySem.W.alike]), PySem.W.dataLt_int, PySem.W.dataLt_int, eqv_int, eqv_int]
  have e : PyProof.Rows.lexLt PyProof.Rows.itemOrd (PySem.W.keyToksAll []) (PySem.W.keyToksAll []) = false := PyProof.Rows.lex_irrefl _
  rw [e]
  by_cases h1 : i = i' <;> by_cases h2 : j = j' <;> simp [h1, h2]
theorem sort_keys {A : GA} (nd : (A.map (·.1)).Nodup) : sortD ((imgL A).map fun p => rowK p.1) = (sA A).map fun e => rowK (kyP e.1) := by
  refine sort_strict ?_ ?_
  · rw [List.pairwise_map]
    refine (sA_pw nd).imp fun {a b} h => ?_
    constructor
    · show (!PySem.W.dataLt (.tuple [.int (b.1.1 : Nat), .int (b.1.2 : Nat)]) (.tuple [.int (a.1.1 : Nat), .int (a.1.2 : Nat)])) = true
      rw [pair_lt]
      rcases h with h | ⟨h1, h2⟩
      · rw [if_neg (by omega), decide_eq_false (by omega)]; rfl
      · rw [if_pos (by omega), decide_eq_false (by omega)]; rfl
    · show (!PySem.W.dataLt (.tuple [.int (a.1.1 : Nat), .int (a.1.2 : Nat)]) (.tuple [.int (b.1.1 : Nat), .int (b.1.2 : Nat)])) = false
      rw [pair_lt]
      rcases h with h | ⟨h1, h2⟩
      · rw [if_neg (by omega), decide_eq_true (by omega)]; rfl
      · rw [if_pos (by omega), decide_eq_true (by omega)]; rfl
  · unfold imgL
    rw [List.map_map]
    exact ((sA_perm A).map fun e => rowK (kyP e.1)).symm
theorem val_img {A : GA} {e : Pr × List (Int × Int)} (nd : (A.map (·.1)).Nodup) (h : e ∈ A) : valT (imgL A) (kyP e.1) = some (pr (sumF e.2)) := by
  induction A with
  | nil => cases h
  | cons a r ih =>
    rw [List.map_cons, List.nodup_cons] at nd
    unfold imgL valT at ih ⊢
    rw [List.map_cons, List.find?_cons]
    rcases List.mem_cons.mp h with z | z
    · subst z
      rw [decide_eq_true rfl]
      rfl
    · have ne : ¬ kyP a.1 = kyP e.1 := fun y => nd.1 (by
        rw [kyP_inj y]
        exact List.mem_map.mpr ⟨e, z, rfl⟩)
      rw [decide_eq_false ne]
      exact ih nd.2 z
def Φ__law_due : Ph := ph3 fun a b c ms R => ∃ (m : Nat) (ts : List Tie) (gs cs : List Nat), a = .d (encW m ts) ∧ b = .d (.list (nD gs)) ∧ c = .d (.list (nD cs)) ∧ WebOk m ts ∧ gs.length = m ∧ cs.length = m ∧ R (.d (dueD gs cs ts)) ms
theorem len__law_due : ∀ as ms R, Φ__law_due as ms R → as.length = 3 := ph3_len
theorem rd__law_due {K : PySem.W.Frag} : ∀ as ms R, Φ__law_due as ms R → S K (t__law_due K Φ__law_plus) (as ++ List.replicate (11 - as.length) .u) ms (fin R) := by
  rintro as ms R ⟨a, b, c, rfl, m, ts, gs, cs, rfl, rfl, rfl, hw, hg, hc, r⟩
  have hlen := hw.len
  have at_ : ∀ x : List (List Key × PyData), (ms ++ [MD.t x])[ms.length]? = some (.t x) := fun x => by simp
  have st : ∀ x y : List (List Key × PyData), (ms ++ [MD.t x]).set ms.length (.t y) = ms ++ [.t y] := fun x y => by simp
  unfold t__law_due
  refine s_newT ?_
  refine s_seq (s_asg (e_tup (ea_cons (e_int (ea_cons (e_int (ea_nil ⟨[_, _], rfl, Nat.le_of_ble_eq_true rfl, ?_⟩)))))))
  refine s_seq (s_forT (js := [5, 6, 7]) (e_op (e_var rfl (e_int (rr_ix ⟨_, _, _, .inr (.d _), rfl, atI_nat (j := 1) rfl, ?_⟩)))))
  refine ⟨_, rfl, fun i ds' ms' => ∃ (o5 o6 o7 o8 o9 o10 : SD), ds' = [.d (encW m ts), .d (.list (nD gs)), .d (.list (nD cs)), .q ms.length, .d (pr (sumF (((ts.take i).filter (mkB cs)).map wF))), o5, o6, o7, o8, o9, o10] ∧ ms' = ms ++ [.t (imgL (glA gs cs (ts.take i)))],
    ⟨_, _, _, _, _, _, rfl, rfl⟩, ?_, ?_⟩
  · rintro i e ds' ms' hi ⟨o5, o6, o7, o8, o9, o10, rfl, rfl⟩
    rw [List.getElem?_map] at hi
    cases q : ts[i]? with
    | none => rw [q] at hi; cases hi
    | some t =>
      rw [q] at hi
      have e1 := (Option.some.inj hi).symm
      subst e1
      have hil := (List.getElem?_eq_some_iff.mp q).1
      have ht := hw.all t (List.mem_of_getElem? q)
      have tl := ht.lt
      have tm := ht.lm
      have ok := glA_ok hw hg cs i (by omega)
      have wt := ht.w
      obtain ⟨w1, w2⟩ := web_wts hw (mkB cs) i
      obtain ⟨s1, _, s3, s4⟩ := sum_ok w1 w2
      refine eg_tup rfl (egs_cons (eg_name (egs_cons (eg_name (egs_cons (eg_name (egs_nil ?_)))))))
      refine s_seq (s_asg (e_tup (ea_cons (e_cb (ea_cons (e_op (e_var rfl (e_var rfl (rr_ix ⟨_, _, _, .inl (.d _), rfl, atI_nat (natN_at (by omega)), ?_⟩)))))))))
      refine ea_cons (e_op (e_var rfl (e_var rfl (rr_ix ⟨_, _, _, .inl (.d _), rfl, atI_nat (natN_at (by omega)), ?_⟩))))
      refine ea_nil (rc_min ⟨_, _, rfl, ?_⟩)
      refine ea_cons (e_cb (ea_cons (e_op (e_var rfl (e_var rfl (rr_ix ⟨_, _, _, .inl (.d _), rfl, atI_nat (natN_at (by omega)), ?_⟩))))))
      refine ea_cons (e_op (e_var rfl (e_var rfl (rr_ix ⟨_, _, _, .inl (.d _), rfl, atI_nat (natN_at (by omega)), ?_⟩))))
      refine ea_nil (rc_max ⟨_, _, rfl, ?_⟩)
      refine ea_nil ⟨[_, _], rfl, Nat.le_of_ble_eq_true rfl, ?_⟩
      show S _ _ (List.set _ _ (SD.d (.tuple [_, _]))) _ _
      rw [rowK_prT]
      refine s_seq (s_asg (e_var rfl ?_))
      refine s_mid (fun ds' ms' => ∃ (o5 o6 o7 o10 : SD), ds' = [.d (encW m ts), .d (.list (nD gs)), .d (.list (nD cs)), .q ms.length, .d (pr (sumF (((ts.take (i + 1)).filter (mkB cs)).map wF))), o5, o6, o7, .d (rowK (kyP (prT gs t))), .d (pr (shT cs t)), o10] ∧ ms' = ms ++ [.t (imgL (glA gs cs (ts.take i)))]) ?_ ?_
      · refine s_if (et_test (e_op (e_op (e_var rfl (e_var rfl (rr_ix ⟨_, _, _, .inl (.d _), rfl, atI_nat (natN_at (by omega)), ?_⟩))))))
        refine e_op (e_var rfl (e_var rfl (rr_ix ⟨_, _, _, .inl (.d _), rfl, atI_nat (natN_at (by omega)), ?_⟩)))
        refine rr_ne ⟨_, _, .d _, .d _, shaped_int _, shaped_int _, ?_⟩
        rw [eqvN]
        refine ⟨_, rfl, fun h => ?_, fun h => ?_⟩
        · have yes : mkB cs t = true := h
          have ne : ¬ cs.getD t.1 0 = cs.getD t.2.1 0 := by simpa using h
          refine s_seq (s_asg (e_call (ea_cons (e_var rfl (ea_cons (e_var rfl (ea_nil ⟨_, _, rfl, _, _, rfl, rfl, s1.pos, wt.lo.pos, s3.mono (by decide), s4.mono (by decide), wt.b1.mono (by decide), wt.b2.mono (by decide), ?_⟩)))))))
          refine s_asg (e_tup (ea_cons (e_op (e_int (e_op (e_var rfl (e_int (rr_ix ⟨_, _, _, .inr (.d _), rfl, atI_nat (j := 0) rfl, rr_I0 ⟨_, _, rfl, rfl, ?_⟩⟩))))))))
          refine ea_cons (e_op (e_var rfl (e_int (rr_ix ⟨_, _, _, .inr (.d _), rfl, atI_nat (j := 1) rfl, ?_⟩))))
          refine ea_nil ⟨[_, _], rfl, Nat.le_of_ble_eq_true rfl, .d (.int t.1), .d (.int t.2.1), .d (pr t.2.2), o10, ?_, rfl⟩
          rw [take_snoc q, List.filter_append, List.filter_cons, if_pos yes, List.map_append]
          show _ = [_, _, _, _, SD.d (pr (sumF (_ ++ [wF t]))), _, _, _, _, _, _]
          rw [foldl_snoc]
          have e3 : pr (shT cs t) = .tuple [.int (0 - t.2.2.1), .int t.2.2.2] := by
            unfold shT
            rw [if_neg ne, Int.zero_sub]
          rw [e3]
          rfl
        · have nob : mkB cs t = false := h
          have eq : cs.getD t.1 0 = cs.getD t.2.1 0 := by simpa using h
          refine s_next ⟨.d (.int t.1), .d (.int t.2.1), .d (pr t.2.2), o10, ?_, rfl⟩
          rw [take_snoc q, List.filter_append, List.filter_cons, if_neg (by rw [nob]; decide)]
          have e3 : shT cs t = t.2.2 := if_pos eq
          rw [e3]
          simp
          rfl
      · rintro ds' ms' ⟨o5, o6, o7, o10, rfl, rfl⟩
        refine s_if (et_test (e_op (e_op (e_var rfl (e_int (rr_ix ⟨_, _, _, .inr (.d _), rfl, atI_nat (j := 0) rfl, ?_⟩))))))
        refine e_op (e_var rfl (e_int (rr_ix ⟨_, _, _, .inr (.d _), rfl, atI_nat (j := 1) rfl, rr_B0 ⟨((prT gs t).1 : Int), ((prT gs t).2 : Int), rfl, rfl, _, rfl, fun h => ?_, fun h => ?_⟩⟩)))
        · have ne : ¬ (prT gs t).1 = (prT gs t).2 := by have := of_decide_eq_true h; omega
          have ga := getA_ok ok (prT gs t)
          have so := sum_ok ga.1 (by omega)
          have sw := shT_wt ht cs
          refine s_asgH (e_call (ea_cons (e_getT (e_varq rfl ⟨_, _, rfl, at_ _, e_var rfl (e_tup (ea_cons (e_int (ea_cons (e_int (ea_nil ⟨[_, _], rfl, Nat.le_of_ble_eq_true rfl, _, kyP (prT gs t), pr (0, 1), at_ _, rfl, rfl, ?_⟩))))))⟩))))
          rw [imgL_get]
          refine ea_cons (e_var rfl (ea_nil ⟨_, _, rfl, _, _, rfl, rfl, so.1.pos, sw.lo.pos, so.2.2.1.mono (by decide), so.2.2.2.mono (by decide), sw.b1.mono (by decide), sw.b2.mono (by decide), ?_⟩))
          have la : (imgL (glA gs cs (ts.take i))).length = (glA gs cs (ts.take i)).length := List.length_map _
          refine egh_setT (e_varq rfl ⟨_, rfl, e_var rfl ⟨kyP (prT gs t), _, rfl, at_ _, by rw [la]; have := ok.len; omega, ?_⟩⟩)
          rw [st, imgL_put ok.nd]
          refine ⟨_, _, _, _, _, _, rfl, ?_⟩
          rw [glA_snoc gs cs q]
          unfold stA
          rw [if_neg ne]
        · have eq : (prT gs t).1 = (prT gs t).2 := by
            have h1 := of_decide_eq_false h
            have h2 : (prT gs t).1 ≤ (prT gs t).2 := by show min _ _ ≤ max _ _; omega
            omega
          refine s_next ⟨_, _, _, _, _, _, rfl, ?_⟩
          rw [glA_snoc gs cs q]
          unfold stA
          rw [if_pos eq]
  rintro ds' ms' ⟨o5, o6, o7, o8, o9, o10, rfl, rfl⟩
  rw [List.length_map, List.take_length]
  have ok := glA_ok hw hg cs ts.length (Nat.le_refl _)
  rw [List.take_length] at ok
  have okl := ok.len
  refine s_seq (s_asg (e_cb (ea_cons (e_lcL (js := [8]) (by simp) (e_cb (ea_cons (e_varq rfl (ea_nil (rc_sortK ⟨_, _, rfl, at_ _, ?_, ?_, ?_⟩)))))))))
  · unfold imgL
    rw [List.map_map]
    exact PySem.W.AllAlike.of fun b b' => rfl
  · unfold imgL
    rw [List.map_map]
    exact PySem.W.Sortable.tuples fun b => ⟨_, _, rfl⟩
  rw [sort_keys ok.nd]
  have sl : (sA (glA gs cs ts)).length ≤ 170 := by rw [(sA_perm _).length_eq]; omega
  refine ⟨_, .d _, by rw [List.length_map]; omega, fun i acc ms' => acc = ((sA (glA gs cs ts)).take i).map (fun e => encT (tieE e)) ∧ ms' = _, ⟨rfl, rfl⟩, ?_, ?_⟩
  · rintro i e acc ms' hi ⟨rfl, rfl⟩
    rw [List.getElem?_map] at hi
    cases q : (sA (glA gs cs ts))[i]? with
    | none => rw [q] at hi; cases hi
    | some y =>
      rw [q] at hi
      have e1 := (Option.some.inj hi).symm
      subst e1
      have ym := (sA_perm _).mem_iff.mp (List.mem_of_getElem? q)
      refine eg_name (et_yes ⟨fun _ => e_tup (ea_cons (e_op (e_var rfl (e_int (rr_ix ⟨_, _, _, .inr (.d _), rfl, atI_nat (j := 0) rfl, ?_⟩))))), nofun⟩)
      refine ea_cons (e_op (e_var rfl (e_int (rr_ix ⟨_, _, _, .inr (.d _), rfl, atI_nat (j := 1) rfl, ?_⟩))))
      refine ea_cons (e_dgetT (e_varq rfl ⟨_, rfl, e_var rfl ⟨_, kyP y.1, _, at_ _, rfl, val_img ok.nd ym, ?_⟩⟩))
      refine ea_nil ⟨[_, _, _], rfl, Nat.le_of_ble_eq_true rfl, _, rfl, ?_, rfl⟩
      rw [take_snoc q, List.map_append]
      rfl
  rintro acc ms' ⟨rfl, rfl⟩
  rw [List.length_map, List.take_length]
  refine ea_nil (rc_tuple ⟨_, _, rfl, .inl (.d _), ?_⟩)
  refine s_ret (e_tup (ea_cons (e_tup (ea_cons (e_op (e_cb (ea_cons (e_var rfl (ea_nil (rc_maxL ⟨_, gs.map fun (k : Nat) => (k : Int), rfl, ?_, ?_, fun y h1 h2 => ?_⟩))))))))))
  · have : nD gs = (gs.map fun (k : Nat) => (k : Int)).map .int := by rw [List.map_map]; rfl
    rw [← this]
    exact .d _
  · rw [List.length_map, hg]
    exact hw.m1
  rw [mxG_is h1 h2]
  refine e_int (rr_I0 ⟨_, _, rfl, rfl, ?_⟩)
  have e0 : ((mxG gs : Nat) : Int) + 1 = ((mxG gs + 1 : Nat) : Int) := rfl
  rw [e0]
  refine ea_cons (e_var rfl (ea_nil ⟨[_, _], rfl, Nat.le_of_ble_eq_true rfl, ?_⟩))
  refine ea_cons (e_var rfl (ea_nil ⟨[_, _], rfl, Nat.le_of_ble_eq_true rfl, ?_⟩))
  refine ⟨_, _, rfl, rfl, ⟨_, .inl rfl⟩, ?_⟩
  have ed : ((sA (glA gs cs ts)).map fun e => encT (tieE e)) = (dueT gs cs ts).map encT := by
    unfold dueT
    rw [List.map_map]
    rfl
  rw [ed]
  exact r

def Φ__law_may_be : Ph := ph1 fun a ms R => ∃ (m : Nat) (ts : List Tie), a = .d (encW m ts) ∧ ts.length ≤ 170 ∧ R (.d (.bool (ts.all smB))) ms
theorem len__law_may_be : ∀ as ms R, Φ__law_may_be as ms R → as.length = 1 := ph1_len
theorem rd__law_may_be {K : PySem.W.Frag} : ∀ as ms R, Φ__law_may_be as ms R → S K (t__law_may_be K) (as ++ List.replicate (2 - as.length) .u) ms (fin R) := by
  rintro as ms R ⟨a, rfl, m, ts, rfl, hl, r⟩
  unfold t__law_may_be
  refine s_ret (e_op (e_lcT (js := [1]) (by simp) (e_op (e_var rfl (e_int (rr_ix ⟨_, _, _, .inr (.d _), rfl, atI_nat (j := 1) rfl, ?_⟩))))))
  refine ⟨_, rfl, by rw [List.length_map]; omega, fun i acc ms' => acc = ((ts.take i).filter fun t => !smB t).map encT ∧ ms' = ms, ⟨rfl, rfl⟩, ?_, ?_⟩
  · rintro i e acc ms' hi ⟨rfl, rfl⟩
    rw [List.getElem?_map] at hi
    cases q : ts[i]? with
    | none => rw [q] at hi; cases hi
    | some t =>
      rw [q] at hi
      have e1 := (Option.some.inj hi).symm
      subst e1
      have tk : ((ts.take (i + 1)).filter fun t => !smB t).map encT = ((ts.take i).filter fun t => !smB t).map encT ++ (if (!smB t) = true then [encT t] else []) := by
        rw [take_snoc q, List.filter_append, List.map_append]
        congr 1
        rw [List.filter_cons]
        split <;> rfl
      refine eg_name ?_
      have p9 : ∀ x : Int, decide ((if x < 0 then -x else x) > (10 : Int) ^ (9 : Int).toNat) = !decide (x.natAbs ≤ 1000000000) := fun x => by
        have : (10 : Int) ^ (9 : Int).toNat = 1000000000 := by decide
        rw [this]
        by_cases h : x.natAbs ≤ 1000000000
        · rw [decide_eq_true h, decide_eq_false (by split <;> omega)]; rfl
        · rw [decide_eq_false h, decide_eq_true (by split <;> omega)]; rfl
      refine et_or (et_test (e_op (e_cb (ea_cons (e_op (e_op (e_var rfl (e_int (rr_ix ⟨_, _, _, .inr (.d _), rfl, atI_nat (j := 2) rfl, ?_⟩)))))))))
      refine e_int (rr_ix ⟨_, _, _, .inr (.d _), rfl, atI_nat (j := 0) rfl, ?_⟩)
      refine ea_nil (rc_abs ⟨_, rfl, e_op (e_int (e_int (rr_I ⟨_, _, rfl, rfl, ⟨by decide, by decide, by decide⟩, rr_B0 ⟨_, _, rfl, rfl, ?_⟩⟩)))⟩)
      rw [p9]
      refine ⟨_, rfl, fun h => ?_, fun h => ?_⟩
      · have ns : (!smB t) = true := by
          unfold smB
          have : decide (t.2.2.1.natAbs ≤ 1000000000) = false := by simpa using h
          rw [this]
          rfl
        refine ⟨fun _ => e_var rfl ⟨_, rfl, ?_, rfl⟩, nofun⟩
        rw [tk, if_pos ns]
      · refine et_test (e_op (e_op (e_op (e_var rfl (e_int (rr_ix ⟨_, _, _, .inr (.d _), rfl, atI_nat (j := 2) rfl, ?_⟩))))))
        refine e_int (rr_ix ⟨_, _, _, .inr (.d _), rfl, atI_nat (j := 1) rfl, e_int (rr_B0 ⟨_, _, rfl, rfl, _, rfl, fun h2 => ?_, fun h2 => ?_⟩)⟩)
        · have h2 := of_decide_eq_true h2
          have ns : (!smB t) = true := by
            unfold smB
            rw [decide_eq_false (show ¬ t.2.2.2 ≤ 1000 by omega), Bool.and_false]
            rfl
          refine e_var rfl ⟨_, rfl, ?_, rfl⟩
          rw [tk, if_pos ns]
        · have h2 := of_decide_eq_false h2
          have ns : ¬ (!smB t) = true := by
            unfold smB
            have : decide (t.2.2.1.natAbs ≤ 1000000000) = true := by simpa using h
            rw [this, decide_eq_true (show t.2.2.2 ≤ 1000 by omega)]
            decide
          refine ⟨?_, rfl⟩
          rw [tk, if_neg ns, List.append_nil]
  rintro acc ms' ⟨rfl, rfl⟩
  rw [List.length_map, List.take_length]
  refine e_lst (ea_nil ⟨[], rfl, Nat.zero_le _, rr_eq ⟨_, _, .d _, .d _, (shp_ties _).ok (by decide), rfl, ?_⟩⟩)
  rw [ne_nil]
  have e : ((ts.filter fun t => !smB t).map encT).isEmpty = ts.all smB := by
    rw [List.isEmpty_map]
    cases q : ts.all smB with
    | true =>
      rw [List.isEmpty_iff, List.filter_eq_nil_iff]
      intro t ht
      rw [List.all_eq_true.mp q t ht]
      decide
    | false =>
      rw [Bool.eq_false_iff]
      intro z
      rw [List.isEmpty_iff, List.filter_eq_nil_iff] at z
      have : ts.all smB = true := List.all_eq_true.mpr fun t ht => by
        have := z t ht
        simpa using this
      rw [this] at q
      cases q
  rw [e]
  exact r

theorem kit_same {K : PySem.W.Frag} {C : Addr} : PySem.W.kitOne K (.ref C) (.ref C) = some true := by
  unfold PySem.W.kitOne
  rw [if_pos (by simp)]
/-- isinstance of a kept error that an expression gives -/
theorem e_isHE {K : PySem.W.Frag} {te : TE} {ds : List SD} {ms : List MD} {R : RS} {c : V} {cv : Value} (hc : ∀ u, RelV c u → u = cv) (h : E K te ds ms fun s ms1 => ∃ C b, ExcC K C ∧ s = .h (erO C) ∧ PySem.W.kitOne K (.ref C) cv = some b ∧ R (.d (.bool b)) ms1) : E K (tCB (rIsH K) (tCons te (tCons (tC c) tNil))) ds ms R := fun L M σ H hS hA Q q =>
  h L M σ H hS hA _ fun s v H1 ms1 w o ⟨C, b, x, es, hb, r⟩ => by
    subst es
    obtain ⟨a1, a, rfl, n, ha⟩ := o
    exact ⟨a, C, c, cv, b, rfl, x, ha, hc, hb, q (.d (.bool b)) _ H1 ms1 w ⟨a1, .bl b⟩ r⟩
def Φ__law_caught (C_CutError C_NoWeb C_NoSide C_NoWishes C_TooGreat : Addr) : Ph := ph2 fun a b ms R => ∃ (m : Nat) (ts : List Tie) (x : PyData), a = .d (encW m ts) ∧ b = .d x ∧ WebOk m ts ∧
  ((thingB m x = false ∧ R (.h (erO C_NoWishes)) ms) ∨ ∃ (hs : List PyData) (js : List Jn), RowsJ x hs js ∧ js.length ≤ 120 ∧ JOk m js ∧
    TellG m js (R (.d .none) ms) fun gs cs => (goodB gs cs ts = true → R (.d .none) ms) ∧ (goodB gs cs ts = false → R (.h (erO C_TooGreat)) ms))
theorem len__law_caught {C_CutError C_NoWeb C_NoSide C_NoWishes C_TooGreat : Addr} : ∀ as ms R, Φ__law_caught C_CutError C_NoWeb C_NoSide C_NoWishes C_TooGreat as ms R → as.length = 2 := ph2_len
theorem rd__law_caught {K : PySem.W.Frag} {mg : Str → Option Value} {C_CutError C_NoWeb C_NoSide C_NoWishes C_TooGreat : Addr} (cl : Cls K mg C_CutError C_NoWeb C_NoSide C_NoWishes C_TooGreat) : ∀ as ms R, Φ__law_caught C_CutError C_NoWeb C_NoSide C_NoWishes C_TooGreat as ms R →
    S K (t__law_caught K C_CutError C_NoWeb C_NoSide C_NoWishes C_TooGreat (Φ_glued C_CutError C_NoWeb C_NoSide C_NoWishes C_TooGreat)) (as ++ List.replicate (3 - as.length) .u) ms (fin R) := by
  rintro as ms R ⟨a, b, rfl, m, ts, x, rfl, rfl, hw, h⟩
  unfold t__law_caught
  refine s_seq (s_tryE (Nat.le_of_ble_eq_true rfl) (ea_cons (e_var rfl (ea_cons (e_var rfl (ea_nil ⟨_, _, rfl, m, ts, x, rfl, rfl, hw, ?_⟩))))))
  rcases h with ⟨h1, r⟩ | ⟨hs, js, hr, hl, hj, no, yes⟩
  · exact .inl ⟨h1, cl.m_NoWishes, r⟩
  · exact .inr ⟨hs, js, hr, hl, hj, fun hno => s_ret (e_non (no hno)), fun fs gs cs gr can => ⟨fun g => s_ret (e_non ((yes fs gs cs gr can).1 g)), fun g => ⟨cl.m_TooGreat, (yes fs gs cs gr can).2 g⟩⟩⟩

def Φ__law_refused : Ph := ph2 fun a b ms R => ∃ (m : Nat) (ts : List Tie) (x : PyData), a = .d (encW m ts) ∧ b = .d x ∧ WebOk m ts ∧ thingB m x = false ∧ R (.d (.bool true)) ms
theorem len__law_refused : ∀ as ms R, Φ__law_refused as ms R → as.length = 2 := ph2_len
theorem rd__law_refused {K : PySem.W.Frag} {mg : Str → Option Value} {C_CutError C_NoWeb C_NoSide C_NoWishes C_TooGreat : Addr} (cl : Cls K mg C_CutError C_NoWeb C_NoSide C_NoWishes C_TooGreat) : ∀ as ms R, Φ__law_refused as ms R →
    S K (t__law_refused K C_CutError C_NoWeb C_NoSide C_NoWishes C_TooGreat (Φ__law_caught C_CutError C_NoWeb C_NoSide C_NoWishes C_TooGreat)) (as ++ List.replicate (3 - as.length) .u) ms (fin R) := by
  rintro as ms R ⟨a, b, rfl, m, ts, x, rfl, rfl, hw, hx, r⟩
  have ex := cl.er_NoWishes.e
  unfold t__law_refused
  refine s_seq (s_asg (e_call (ea_cons (e_var rfl (ea_cons (e_var rfl (ea_nil ⟨_, _, rfl, m, ts, x, rfl, rfl, hw, .inl ⟨hx, ?_⟩⟩)))))))
  refine s_seq (s_if (et_or (et_not (et_B (e_isH ex rfl (fun _ h => h) kit_same ⟨true, rfl, nofun, fun _ => ?_⟩)))))
  refine et_not (et_B (e_isH ex rfl (fun u h => h) cl.k_NoWishes_ValueError ⟨true, rfl, nofun, fun _ => s_next ?_⟩))
  refine s_ret (e_and (e_not (e_isH ex rfl (fun _ h => h) cl.n_NoWishes_TooGreat ⟨_, rfl, _, rfl, ?_⟩)))
  refine ⟨fun _ => ?_, nofun⟩
  exact e_not (e_isH ex rfl (fun _ h => h) cl.n_NoWishes_NoWeb ⟨_, rfl, r⟩)

/-! ### the weight of a side that is led back -/
theorem perm_sumR {l k : List Rat} (h : l.Perm k) : l.sum = k.sum := by
  induction h with
  | nil => rfl
  | cons x _ ih => rw [List.sum_cons, List.sum_cons, ih]
  | swap x y l => simp only [List.sum_cons]; grind
  | trans _ _ ih1 ih2 => rw [ih1, ih2]
theorem sumV_snoc (l : List (Int × Int)) (f : Int × Int) : sumV (l ++ [f]) = sumV l + val f := by
  unfold sumV
  rw [List.map_append]
  induction l.map val with
  | nil => simp only [List.nil_append, List.map_cons, List.map_nil, List.sum_cons, List.sum_nil]; grind
  | cons x r ih => rw [List.cons_append, List.sum_cons, List.sum_cons, ih]; grind
theorem sumV_filter {α : Type} (p : α → Bool) (w : α → Int × Int) : ∀ l : List α, sumV ((l.filter p).map w) = (l.map fun t => if p t = true then val (w t) else 0).sum
  | [] => rfl
  | t :: r => by
    have ih := sumV_filter p w r
    rw [List.filter_cons, List.map_cons, List.sum_cons, ← ih]
    by_cases h : p t = true
    · rw [if_pos h, if_pos h]
      rfl
    · rw [if_neg h, if_neg h]
      grind
theorem val_neg (a b : Int) : val (-a, b) = -val (a, b) := by
  unfold val
  show ((-a : Int) : Rat) / (b : Rat) = -((a : Rat) / (b : Rat))
  rw [Rat.intCast_neg, Rat.div_def, Rat.div_def, Rat.neg_mul]
def vAt (s : Nat → Nat) (A : GA) : Rat := (A.map fun e => if s e.1.1 = s e.1.2 then 0 else sumV e.2).sum
theorem vAt_add (s : Nat → Nat) (k : Pr) (f : Int × Int) : ∀ A : GA, vAt s (addA k f A) = vAt s A + (if s k.1 = s k.2 then 0 else val f)
  | [] => by
    show ((if s k.1 = s k.2 then 0 else sumV [f]) : Rat) + 0 = 0 + _
    split
    · grind
    · have : sumV [f] = val f := by show val f + 0 = val f; grind
      rw [this]
      grind
  | e :: r => by
    have ih := vAt_add s k f r
    unfold addA
    by_cases h : e.1 = k
    · rw [if_pos h]
      show ((if s e.1.1 = s e.1.2 then 0 else sumV (e.2 ++ [f])) : Rat) + vAt s r = ((if s e.1.1 = s e.1.2 then 0 else sumV e.2) + vAt s r) + _
      rw [h, sumV_snoc]
      split <;> grind
    · rw [if_neg h]
      show ((if s e.1.1 = s e.1.2 then 0 else sumV e.2) : Rat) + vAt s (addA k f r) = ((if s e.1.1 = s e.1.2 then 0 else sumV e.2) + vAt s r) + _
      rw [ih]
      grind
abbrev cstL (ss : List Nat) : List Int := ss.map fun (k : Nat) => (k : Int)
theorem cst_at (ss : List Nat) (p : Nat) : (cstL ss).getD p 0 = ((ss.getD p 0 : Nat) : Int) := by
  simp only [List.getD, List.getElem?_map]
  cases ss[p]? <;> rfl
theorem cB_cst (ss : List Nat) (t : Tie) : cB (cstL ss) t = !decide (ss.getD t.1 0 = ss.getD t.2.1 0) := by
  unfold cB
  rw [cst_at, cst_at]
  congr 1
  exact decide_eq_decide.mpr ⟨fun h => by omega, fun h => by omega⟩
section
variable {m : Nat} {ts : List Tie} {gs cs bs : List Nat}
theorem sdOf_at {G C : Nat → Nat} {p : Nat} (hp : p < m) : (sdOf m G C bs).getD p 0 = (bs.getD (G p) 0 + C p) % 2 := by
  unfold sdOf
  simp [List.getD, hp, sdv]
theorem led_tie {t : Tie} (ht : TieOk m t) (hb : ∀ p, bs.getD p 0 < 2) (hc : ∀ p, cs.getD p 0 < 2) :
    ((if cB (cstL (sdOf m (fun p => gs.getD p 0) (fun p => cs.getD p 0) bs)) t = true then val (wF t) else 0) : Rat) =
      (if (prT gs t).1 = (prT gs t).2 then 0 else if bs.getD (prT gs t).1 0 = bs.getD (prT gs t).2 0 then 0 else val (shT cs t)) + (if mkB cs t = true then val (wF t) else 0) := by
  have tl := ht.lt
  have tm := ht.lm
  rw [cB_cst, sdOf_at (show t.1 < m by omega), sdOf_at tm]
  have hp : (prT gs t).1 = (prT gs t).2 ↔ gs.getD t.1 0 = gs.getD t.2.1 0 := by
    show min _ _ = max _ _ ↔ _
    omega
  have hs : bs.getD (prT gs t).1 0 = bs.getD (prT gs t).2 0 ↔ bs.getD (gs.getD t.1 0) 0 = bs.getD (gs.getD t.2.1 0) 0 := by
    show bs.getD (min (gs.getD t.1 0) (gs.getD t.2.1 0)) 0 = bs.getD (max (gs.getD t.1 0) (gs.getD t.2.1 0)) 0 ↔ _
    by_cases z : gs.getD t.1 0 ≤ gs.getD t.2.1 0
    · rw [Nat.min_eq_left z, Nat.max_eq_right z]
    · rw [Nat.min_eq_right (by omega), Nat.max_eq_left (by omega)]
      exact ⟨fun h => h.symm, fun h => h.symm⟩
  have b1 := hb (gs.getD t.1 0)
  have b2 := hb (gs.getD t.2.1 0)
  have c1 := hc t.1
  have c2 := hc t.2.1
  by_cases hcc : cs.getD t.1 0 = cs.getD t.2.1 0
  · have mk : mkB cs t = false := by unfold mkB; rw [decide_eq_true hcc]; rfl
    have sh : shT cs t = wF t := if_pos hcc
    rw [mk, sh]
    by_cases hss : bs.getD (gs.getD t.1 0) 0 = bs.getD (gs.getD t.2.1 0) 0
    · rw [if_pos (hs.mpr hss), decide_eq_true (by omega)]
      simp
      grind
    · have hg : ¬ (prT gs t).1 = (prT gs t).2 := fun z => hss (by rw [hp.mp z])
      rw [if_neg hg, if_neg fun z => hss (hs.mp z), decide_eq_false (by omega)]
      simp
      grind
  · have mk : mkB cs t = true := by unfold mkB; rw [decide_eq_false hcc]; rfl
    have sh : val (shT cs t) = -val (wF t) := by
      unfold shT
      rw [if_neg hcc]
      exact val_neg _ _
    rw [mk, sh]
    by_cases hss : bs.getD (gs.getD t.1 0) 0 = bs.getD (gs.getD t.2.1 0) 0
    · rw [if_pos (hs.mpr hss), decide_eq_false (by omega)]
      simp
      grind
    · have hg : ¬ (prT gs t).1 = (prT gs t).2 := fun z => hss (by rw [hp.mp z])
      rw [if_neg hg, if_neg fun z => hss (hs.mp z), decide_eq_true (by omega)]
      simp
      grind
theorem led_sum (hw : WebOk m ts) (hb : ∀ p, bs.getD p 0 < 2) (hc : ∀ p, cs.getD p 0 < 2) : ∀ i, i ≤ ts.length →
    (((ts.take i).map fun t => if cB (cstL (sdOf m (fun p => gs.getD p 0) (fun p => cs.getD p 0) bs)) t = true then val (wF t) else 0).sum : Rat) = vAt (fun p => bs.getD p 0) (glA gs cs (ts.take i)) + ((ts.take i).map fun t => if mkB cs t = true then val (wF t) else 0).sum
  | 0, _ => by
    show (0 : Rat) = 0 + 0
    grind
  | i + 1, h => by
    have q : ts[i]? = some (ts[i]'(by omega)) := List.getElem?_eq_getElem _
    have ih := led_sum hw hb hc i (by omega)
    rw [glA_snoc gs cs q, take_snoc q]
    have tk := hw.all _ (List.mem_of_getElem? q)
    generalize ts[i] = t at tk
    have lt := led_tie (gs := gs) tk hb hc
    have sn : ∀ f : Tie → Rat, ((ts.take i ++ [t]).map f).sum = ((ts.take i).map f).sum + f t := fun f => by
      rw [List.map_append]
      induction (ts.take i).map f with
      | nil => simp only [List.nil_append, List.map_cons, List.map_nil, List.sum_cons, List.sum_nil]; grind
      | cons x r ih => rw [List.cons_append, List.sum_cons, List.sum_cons, ih]; grind
    rw [sn, sn, ih, lt]
    have sa : vAt (fun p => bs.getD p 0) (stA gs cs (glA gs cs (ts.take i)) t) = vAt (fun p => bs.getD p 0) (glA gs cs (ts.take i)) + (if (prT gs t).1 = (prT gs t).2 then 0 else if bs.getD (prT gs t).1 0 = bs.getD (prT gs t).2 0 then 0 else val (shT cs t)) := by
      unfold stA
      split
      · grind
      · exact vAt_add _ _ _ _
    rw [sa]
    grind
/-- the weight of the side that is led back is the glued side's weight and what is cut within the groups -/
theorem led_weight (hw : WebOk m ts) (hg : gs.length = m) (hgl : ∀ g ∈ gs, g < m) (gd : goodB gs cs ts = true) (hb : ∀ p, bs.getD p 0 < 2) (hc : ∀ p, cs.getD p 0 < 2) :
    sumF ((ts.filter (cB (cstL (sdOf m (fun p => gs.getD p 0) (fun p => cs.getD p 0) bs)))).map wF) = pl (sumF (((dueT gs cs ts).filter (cB (cstL bs))).map wF)) (sumF ((ts.filter (mkB cs)).map wF)) := by
  have dw := (dueT_web hw hg hgl cs gd).1
  obtain ⟨l1, v1⟩ := sumF_all (filt_wts hw (cB (cstL (sdOf m (fun p => gs.getD p 0) (fun p => cs.getD p 0) bs)))).1
  obtain ⟨l2, v2⟩ := sumF_all (filt_wts dw (cB (cstL bs))).1
  obtain ⟨l3, v3⟩ := sumF_all (filt_wts hw (mkB cs)).1
  have n2 : (sumF (((dueT gs cs ts).filter (cB (cstL bs))).map wF)).2 ≠ 0 := by have := l2.pos; omega
  have n3 : (sumF ((ts.filter (mkB cs)).map wF)).2 ≠ 0 := by have := l3.pos; omega
  refine Lo.eq l1 (pl_lo n2 n3) ?_
  rw [pl_val n2 n3, v1, v2, v3, sumV_filter, sumV_filter, sumV_filter]
  have main := led_sum (gs := gs) hw hb hc ts.length (Nat.le_refl _)
  rw [List.take_length] at main
  rw [main]
  congr 1
  have ok := glA_ok hw hg cs ts.length (Nat.le_refl _)
  rw [List.take_length] at ok
  unfold vAt dueT
  rw [List.map_map]
  refine perm_sumR ?_
  refine ((sA_perm (glA gs cs ts)).map _).symm.trans (List.Perm.of_eq ?_)
  refine List.map_congr_left fun e he => ?_
  have we := ok.wt e ((sA_perm _).mem_iff.mp he)
  show _ = if cB (cstL bs) (tieE e) = true then val (sumF e.2) else 0
  rw [cB_cst, (sumF_all we.1).2]
  show _ = if (!decide (bs.getD e.1.1 0 = bs.getD e.1.2 0)) = true then sumV e.2 else 0
  by_cases z : bs.getD e.1.1 0 = bs.getD e.1.2 0
  · rw [if_pos z, decide_eq_true z]
    rfl
  · rw [if_neg z, decide_eq_false z]
    rfl
end

def ph6 (f : SD → SD → SD → SD → SD → SD → List MD → RS → Prop) : Ph := fun as ms R => ∃ a b c d e g, as = [a, b, c, d, e, g] ∧ f a b c d e g ms R
theorem ph6_len {f : SD → SD → SD → SD → SD → SD → List MD → RS → Prop} : ∀ as ms R, ph6 f as ms R → as.length = 6 := fun _ _ _ ⟨_, _, _, _, _, _, e, _⟩ => by rw [e]; rfl
theorem nD_cst (ss : List Nat) : nD ss = (cstL ss).map .int := by rw [List.map_map]; rfl
theorem shp_nD (ss : List Nat) : ∀ e ∈ nD ss, Shp 0 e := by rw [nD_cst]; exact Shp.ints _
/-- a join's points are of one group -/
theorem join_one {m : Nat} {js : List Jn} {gs cs : List Nat} (gr : GrOk m js gs cs) (hw : ∀ j ∈ js, jOk m j) {j : Jn} (hj : j ∈ js) : gs.getD j.1 0 = gs.getD j.2.1 0 := by
  obtain ⟨h1, h2, hne, h4⟩ := hw j hj
  apply Classical.byContradiction
  intro z
  have own := gr.own j hj
  have k2 : KeepF js fun x => cs.getD x 0 + if gs.getD x 0 = gs.getD j.1 0 then 1 else 0 := (gr.iff _).mpr fun x y _ _ e => by
    show (cs.getD x 0 + (cs.getD x 0 + if gs.getD x 0 = gs.getD j.1 0 then 1 else 0)) % 2 = (cs.getD y 0 + (cs.getD y 0 + if gs.getD y 0 = gs.getD j.1 0 then 1 else 0)) % 2
    rw [e]
    omega
  have q := k2 j hj
  have z' : ¬ gs.getD j.2.1 0 = gs.getD j.1 0 := fun y => z y.symm
  simp only [if_true, if_neg z'] at q
  have own : (cs.getD j.1 0 + cs.getD j.2.1 0) % 2 = j.2.2 := own
  omega
theorem rowsJ_list {js : List Jn} : RowsJ (.list (js.map encJ)) (js.map encJ) js :=
  ⟨.inl rfl, List.length_map _, fun i h j h1 h2 => by
    rw [List.getElem?_map, h2] at h1
    cases h1
    exact .inr rfl⟩
def Φ__law_led : Ph := ph6 fun a b c d e g ms R => ∃ (m : Nat) (ts : List Tie) (js : List Jn) (fs gs cs bs : List Nat), a = .d (encW m ts) ∧ b = .d (.list (js.map encJ)) ∧ c = .d (.list (nD gs)) ∧ d = .d (.list (nD cs)) ∧ e = .d (dueD gs cs ts) ∧ g = .d (tN bs) ∧
  WebOk m ts ∧ (∀ j ∈ js, jOk m j) ∧ js.length ≤ 120 ∧ GrOk m js gs cs ∧ Can m fs gs cs ∧ goodB gs cs ts = true ∧ bs.length = mxG gs + 1 ∧ (∀ x ∈ bs, x < 2) ∧ bs.getD 0 0 = 0 ∧ R (.d (.bool true)) ms
theorem len__law_led : ∀ as ms R, Φ__law_led as ms R → as.length = 6 := ph6_len
theorem rd__law_led {K : PySem.W.Frag} {C_CutError C_NoWeb C_NoSide C_NoWishes C_TooGreat : Addr} : ∀ as ms R, Φ__law_led as ms R →
    S K (t__law_led K C_CutError C_NoWeb C_NoSide C_NoWishes C_TooGreat (Φ_led_back C_CutError C_NoWeb C_NoSide C_NoWishes C_TooGreat) Φ__law_weight_of Φ__law_plus) (as ++ List.replicate (12 - as.length) .u) ms (fin R) := by
  rintro as ms R ⟨a, b, c, d, e, g, rfl, m, ts, js, fs, gs, cs, bs, rfl, rfl, rfl, rfl, rfl, rfl, hw, hj, hl, gr, can, gd, hbl, hb, h0, r⟩
  have m1 := hw.m1
  have m60 := hw.m60
  have hg := gr.lg
  have hc := gr.lc
  have bb := bit_at hb
  have cb := bit_at gr.bit
  have gx : ∀ p, p < m → gs.getD p 0 < bs.length := fun p hp => by
    have := (mxG_ge gs).1 (gs.getD p 0) (by simp [List.getD, hg, hp])
    omega
  have dw := (dueT_web hw hg gr.lt cs gd).1
  have lw := led_weight hw hg gr.lt gd bb cb
  have fa : ∀ p, p < m → (sdOf m (fun p => gs.getD p 0) (fun p => cs.getD p 0) bs).getD p 0 = (bs.getD (gs.getD p 0) 0 + cs.getD p 0) % 2 := fun p hp => sdOf_at hp
  have fl : (sdOf m (fun p => gs.getD p 0) (fun p => cs.getD p 0) bs).length = m := by simp [sdOf]
  have jok : JOk m js := ⟨m60, by omega, hj⟩
  obtain ⟨z1, z2⟩ := can.zero m1
  unfold t__law_led
  refine s_seq (s_asg (e_callY0 (ea_cons (e_var rfl (ea_cons (e_var rfl (ea_cons (e_var rfl (ea_nil ⟨_, _, _, rfl, m, ts, _, _, js, bs, rfl, rfl, rfl, m1, m60, rowsJ_list, hl, jok, hb, h0, tell_of gr can ⟨gx, ?_⟩⟩)))))))))
  generalize hF : sdOf m (fun p => gs.getD p 0) (fun p => cs.getD p 0) bs = F at *
  refine s_seq (s_asg (e_lcR (js := [8]) (by simp) (ea_cons (e_op (e_var rfl (e_int (rr_ix ⟨_, _, _, .inr (.d _), rfl, atI_nat (j := 0) rfl, ea_nil ⟨_, rfl, by omega, fun i acc ms' => acc = nD ((List.range i).map (sdv (fun p => gs.getD p 0) (fun p => cs.getD p 0) bs)) ∧ ms' = ms, ⟨rfl, rfl⟩, ?_, ?_⟩⟩)))))))
  · rintro i acc ms' hi ⟨rfl, rfl⟩
    have hi' : i < m := by omega
    refine eg_name (et_yes ⟨fun _ => e_op (e_op (e_op (e_var rfl (e_op (e_var rfl (e_var rfl (rr_ix ⟨_, _, _, .inl (.d _), rfl, atI_nat (natN_at (by omega)), ?_⟩))))))), nofun⟩)
    refine rr_ix ⟨_, _, _, .inr (.d _), rfl, atI_nat (natN_at (gx i hi')), ?_⟩
    refine e_op (e_var rfl (e_var rfl (rr_ix ⟨_, _, _, .inl (.d _), rfl, atI_nat (natN_at (by omega)), ?_⟩)))
    refine rr_I0 ⟨_, _, rfl, rfl, e_int (rr_I ⟨_, _, rfl, rfl, by decide, ?_⟩)⟩
    have em : Int.fmod (((bs.getD (gs.getD i 0) 0 : Nat) : Int) + ((cs.getD i 0 : Nat) : Int)) 2 = (((bs.getD (gs.getD i 0) 0 + cs.getD i 0) % 2 : Nat) : Int) := fmod_nat (bs.getD (gs.getD i 0) 0 + cs.getD i 0) 2
    rw [em]
    refine ⟨_, rfl, ?_, rfl⟩
    unfold nD
    rw [List.range_succ, List.map_append, List.map_append]
    rfl
  rintro acc ms' ⟨rfl, rfl⟩
  have eF : (List.range ((m : Nat) : Int).toNat).map (sdv (fun p => gs.getD p 0) (fun p => cs.getD p 0) bs) = F := by
    rw [← hF]
    rfl
  rw [eF]
  refine s_seq (s_if (et_or (et_not (et_B (e_isi instTuple (e_var rfl ⟨_, .d _, nofun, true, rfl, nofun, fun _ => ?_⟩))))))
  refine et_or (et_test (e_op (e_var rfl (e_cb (ea_cons (e_var rfl (ea_nil (rc_tuple ⟨_, _, rfl, .inl (.d _), rr_ne ⟨_, _, .d _, .d _, (Shp.tup (shp_nD F)).ok (by decide), (Shp.tup (shp_nD F)).ok (by decide), ?_⟩⟩))))))))
  rw [eqv_self (Shp.tup (shp_nD F))]
  refine ⟨_, rfl, nofun, fun _ => ?_⟩
  have f0 : F.getD 0 0 = 0 := by rw [fa 0 (by omega), z1, z2, h0]
  refine et_test (e_op (e_op (e_var rfl (e_int (rr_ix ⟨_, _, _, .inr (.d _), rfl, atI_nat (j := 0) (natN_at (by omega)), e_int (rr_ne ⟨_, _, .d _, .d _, shaped_int _, shaped_int _, ?_⟩)⟩)))))
  rw [f0]
  refine ⟨_, rfl, nofun, fun _ => s_next ?_⟩
  refine s_seq (s_forL (js := [9, 10, 11]) (e_var rfl ⟨_, .d _, fun i ds' ms2 => ∃ o8 o9 o10 o11 : SD, ds' = [.d (encW m ts), .d (.list (js.map encJ)), .d (.list (nD gs)), .d (.list (nD cs)), .d (dueD gs cs ts), .d (tN bs), .d (tN F), .d (.list (nD F)), o8, o9, o10, o11] ∧ ms2 = ms', ⟨_, _, _, _, rfl, rfl⟩, ?_, ?_⟩))
  · rintro i e ds' ms2 hi ⟨o8, o9, o10, o11, rfl, rfl⟩
    rw [List.getElem?_map] at hi
    cases q : js[i]? with
    | none => rw [q] at hi; cases hi
    | some j =>
      rw [q] at hi
      cases hi
      have jm := List.mem_of_getElem? q
      obtain ⟨j1, j2, jn, jb⟩ := hj j jm
      refine eg_tup rfl (egs_cons (eg_name (egs_cons (eg_name (egs_cons (eg_name (egs_nil ?_)))))))
      refine s_if (et_test (e_op (e_op (e_op (e_op (e_var rfl (e_var rfl (rr_ix ⟨_, _, _, .inr (.d _), rfl, atI_nat (natN_at (p := j.1) (by omega)), ?_⟩))))))))
      refine e_op (e_var rfl (e_var rfl (rr_ix ⟨_, _, _, .inr (.d _), rfl, atI_nat (natN_at (p := j.2.1) (by omega)), ?_⟩)))
      refine rr_I0 ⟨_, _, rfl, rfl, e_int (rr_I ⟨_, _, rfl, rfl, by decide, ?_⟩)⟩
      have em : Int.fmod (((F.getD j.1 0 : Nat) : Int) + ((F.getD j.2.1 0 : Nat) : Int)) 2 = (((F.getD j.1 0 + F.getD j.2.1 0) % 2 : Nat) : Int) := fmod_nat (F.getD j.1 0 + F.getD j.2.1 0) 2
      rw [em]
      refine e_var rfl (rr_ne ⟨_, _, .d _, .d _, shaped_int _, shaped_int _, ?_⟩)
      have ek : (F.getD j.1 0 + F.getD j.2.1 0) % 2 = j.2.2 := by
        have own : (cs.getD j.1 0 + cs.getD j.2.1 0) % 2 = j.2.2 := gr.own j jm
        rw [fa j.1 j1, fa j.2.1 j2, join_one gr hj jm]
        omega
      rw [eqvN, decide_eq_true ek]
      exact ⟨false, rfl, nofun, fun _ => s_next ⟨_, _, _, _, rfl, rfl⟩⟩
  rintro ds' ms2 ⟨o8, o9, o10, o11, rfl, rfl⟩
  have fw := filt_wts hw (mkB cs)
  have so := sum_ok fw.1 fw.2
  have tw := wt_of dw (cstL bs)
  have lb : (cstL bs).length = mxG gs + 1 := by rw [List.length_map]; exact hbl
  have lf : (cstL F).length = m := by rw [List.length_map]; exact fl
  have eN : ∀ ss : List Nat, tN ss = PyData.tuple ((cstL ss).map .int) := fun ss => congrArg PyData.tuple (nD_cst ss)
  refine s_ret (e_op (e_call (ea_cons (e_var rfl (ea_cons (e_var rfl (ea_nil ⟨_, _, rfl, m, ts, cstL F, rfl, congrArg SD.d (eN F), hw, lf, ?_⟩)))))))
  refine e_call (ea_cons (e_call (ea_cons (e_op (e_var rfl (e_int (rr_ix ⟨_, _, _, .inr (.d _), rfl, atI_nat (j := 0) rfl, ?_⟩)))))))
  refine ea_cons (e_var rfl (ea_nil ⟨_, _, rfl, mxG gs + 1, dueT gs cs ts, cstL bs, rfl, congrArg SD.d (eN bs), dw, lb, ?_⟩))
  refine ea_cons (e_op (e_var rfl (e_int (rr_ix ⟨_, _, _, .inr (.d _), rfl, atI_nat (j := 1) rfl, ?_⟩))))
  refine ea_nil ⟨_, _, rfl, _, _, rfl, rfl, tw.1.pos, so.1.pos, tw.2.2.1.mono (by decide), tw.2.2.2.mono (by decide), so.2.2.1.mono (by decide), so.2.2.2.mono (by decide), ?_⟩
  have sp : ∀ f : Int × Int, Shp 1 (pr f) := fun f => Shp.tup (Shp.ints [_, _])
  refine rr_eq ⟨_, _, .d _, .d _, (sp _).ok (by decide), (sp _).ok (by decide), ?_⟩
  rw [← lw, eqv_self (sp _)]
  exact r

theorem rowsJ_tup {js : List Jn} : RowsJ (.tuple (js.map encJ)) (js.map encJ) js :=
  ⟨.inr rfl, List.length_map _, fun i h j h1 h2 => by
    rw [List.getElem?_map, h2] at h1
    cases h1
    exact .inr rfl⟩
theorem rowsJ_lists {js : List Jn} : RowsJ (.tuple (js.map fun j => .list (triJ j))) (js.map fun j => .list (triJ j)) js :=
  ⟨.inr rfl, List.length_map _, fun i h j h1 h2 => by
    rw [List.getElem?_map, h2] at h1
    cases h1
    exact .inl rfl⟩
theorem shp_due (gs cs : List Nat) (ts : List Tie) : Shp 5 (dueD gs cs ts) := Shp.tup fun e he => by
  simp only [List.mem_cons, List.not_mem_nil, or_false] at he
  rcases he with rfl | rfl
  · refine Shp.tup fun e he => ?_
    simp only [List.mem_cons, List.not_mem_nil, or_false] at he
    rcases he with rfl | rfl
    · exact (Shp.int _).mono (by decide)
    · refine Shp.tup fun e he => ?_
      obtain ⟨t, _, rfl⟩ := List.mem_map.mp he
      exact shp_encT t
  · exact (Shp.pr _).mono (by decide)
def Φ__law_right : Ph := ph2 fun a b ms R => ∃ (m : Nat) (ts : List Tie) (js : List Jn), a = .d (encW m ts) ∧ b = .d (.list (js.map encJ)) ∧ WebOk m ts ∧ (∀ j ∈ js, jOk m j) ∧ js.length ≤ 120 ∧ R (.d (.bool true)) ms
theorem len__law_right : ∀ as ms R, Φ__law_right as ms R → as.length = 2 := ph2_len
theorem rd__law_right {K : PySem.W.Frag} {mg : Str → Option Value} {C_CutError C_NoWeb C_NoSide C_NoWishes C_TooGreat : Addr} (cl : Cls K mg C_CutError C_NoWeb C_NoSide C_NoWishes C_TooGreat) : ∀ as ms R, Φ__law_right as ms R →
    S K (t__law_right K C_CutError C_NoWeb C_NoSide C_NoWishes C_TooGreat Φ__law_groups (Φ_glued C_CutError C_NoWeb C_NoSide C_NoWishes C_TooGreat) Φ__law_due Φ__law_may_be (Φ__law_caught C_CutError C_NoWeb C_NoSide C_NoWishes C_TooGreat) Φ__law_led) (as ++ List.replicate (12 - as.length) .u) ms (fin R) := by
  rintro as ms R ⟨a, b, rfl, m, ts, js, rfl, rfl, hw, hj, hl, r⟩
  have m1 := hw.m1
  have m60 := hw.m60
  have jok : JOk m js := ⟨m60, by omega, hj⟩
  unfold t__law_right
  refine s_seq (s_asg (e_call (ea_cons (e_op (e_var rfl (e_int (rr_ix ⟨_, _, _, .inr (.d _), rfl, atI_nat (j := 0) rfl, ?_⟩)))))))
  refine ea_cons (e_var rfl (ea_nil ⟨_, _, rfl, m, js, rfl, rfl, hj, m1, m60, fun hno => ?_, fun fs gs cs gr can => ?_⟩))
  · refine s_seq (s_if (et_test (e_op (e_var rfl (e_non (rr_isN ⟨_, rfl, rfl, true, rfl, fun _ => ?_, nofun⟩))))))
    refine s_ret (e_and (e_op (e_callY0 (ea_cons (e_var rfl (ea_cons (e_var rfl (ea_nil ⟨_, _, rfl, m, ts, _, rfl, rfl, hw, .inr ⟨_, js, rowsJ_list, hl, jok, tell_no hno ?_⟩⟩))))))))
    refine e_non (rr_isN ⟨_, rfl, rfl, true, rfl, fun _ => ?_, nofun⟩)
    refine e_op (e_callY0 (ea_cons (e_var rfl (ea_cons (e_cb (ea_cons (e_var rfl (ea_nil (rc_tuple ⟨_, _, rfl, .inl (.d _), ?_⟩)))))))))
    refine ea_nil ⟨_, _, rfl, m, ts, _, rfl, rfl, hw, .inr ⟨_, js, rowsJ_tup, hl, jok, tell_no hno ?_⟩⟩
    exact e_non (rr_isN ⟨_, rfl, rfl, r⟩)
  have hg := gr.lg
  have hc := gr.lc
  have ok := glA_ok hw hg cs ts.length (Nat.le_refl _)
  rw [List.take_length] at ok
  have dl : (dueT gs cs ts).length ≤ 170 := by
    have h1 := (sA_perm (glA gs cs ts)).length_eq
    have h2 := ok.len
    have h3 := hw.len
    unfold dueT
    rw [List.length_map]
    omega
  refine s_seq (s_if (et_test (e_op (e_var rfl (e_non (rr_isN ⟨_, rfl, rfl, false, rfl, nofun, fun _ => s_next ?_⟩))))))
  refine s_seq (s_asgG (js := [3, 4]) (e_var rfl (eg_tup rfl (egs_cons (eg_name (egs_cons (eg_name (egs_nil ?_))))))))
  refine s_seq (s_asg (e_call (ea_cons (e_var rfl (ea_cons (e_var rfl (ea_cons (e_var rfl (ea_nil ⟨_, _, _, rfl, m, ts, gs, cs, rfl, rfl, rfl, hw, hg, hc, ?_⟩)))))))))
  refine s_seq (s_asg (e_op (e_op (e_var rfl (e_int (rr_ix ⟨_, _, _, .inr (.d _), rfl, atI_nat (j := 0) rfl, ?_⟩))))))
  refine e_int (rr_ix ⟨_, _, _, .inr (.d _), rfl, atI_nat (j := 0) rfl, ?_⟩)
  refine s_seq (s_if (et_not (et_B (e_call (ea_cons (e_op (e_var rfl (e_int (rr_ix ⟨_, _, _, .inr (.d _), rfl, atI_nat (j := 0) rfl, ?_⟩)))))))))
  refine ea_nil ⟨_, rfl, mxG gs + 1, dueT gs cs ts, rfl, dl, _, rfl, fun h => ?_, fun h => ?_⟩
  · have gd : goodB gs cs ts = false := by
      have h : (!(dueT gs cs ts).all smB) = true := h
      show (dueT gs cs ts).all smB = false
      simpa using h
    refine s_ret (e_isHE (fun _ h => h) (e_call (ea_cons (e_var rfl (ea_cons (e_var rfl (ea_nil ⟨_, _, rfl, m, ts, _, rfl, rfl, hw, .inr ⟨_, js, rowsJ_list, hl, jok, tell_of gr can ⟨fun z => ?_, fun _ => ?_⟩⟩⟩)))))))
    · rw [gd] at z; cases z
    · exact ⟨_, true, cl.er_TooGreat.e, rfl, kit_same, r⟩
  have gd : goodB gs cs ts = true := by
    have h : (!(dueT gs cs ts).all smB) = false := h
    show (dueT gs cs ts).all smB = true
    simpa using h
  have bad : ∀ {P : Prop}, goodB gs cs ts = false → P := fun z => by rw [gd] at z; cases z
  refine s_next ?_
  refine s_seq (s_asg (e_callY0 (ea_cons (e_var rfl (ea_cons (e_var rfl (ea_nil ⟨_, _, rfl, m, ts, _, rfl, rfl, hw, .inr ⟨_, js, rowsJ_list, hl, jok, tell_of gr can ⟨fun _ => ?_, bad⟩⟩⟩)))))))
  refine s_seq (s_if (et_or (et_not (et_B (e_isi instTuple (e_var rfl ⟨_, .d _, nofun, true, rfl, nofun, fun _ => ?_⟩))))))
  refine et_or (et_not (et_B (e_isi instTuple (e_op (e_var rfl (e_int (rr_ix ⟨_, _, _, .inr (.d _), rfl, atI_nat (j := 0) rfl, _, .d _, nofun, true, rfl, nofun, fun _ => ?_⟩)))))))
  refine et_not (et_B (e_isi instTuple (e_op (e_op (e_var rfl (e_int (rr_ix ⟨_, _, _, .inr (.d _), rfl, atI_nat (j := 0) rfl, ?_⟩)))))))
  refine e_int (rr_ix ⟨_, _, _, .inr (.d _), rfl, atI_nat (j := 1) rfl, _, .d _, nofun, true, rfl, nofun, fun _ => s_next ?_⟩)
  have sd := shp_due gs cs ts
  refine s_seq (s_if (et_or (et_test (e_op (e_var rfl (e_var rfl (rr_ne ⟨_, _, .d _, .d _, sd.ok (by decide), sd.ok (by decide), ?_⟩)))))))
  rw [eqv_self sd]
  refine ⟨false, rfl, nofun, fun _ => ?_⟩
  refine et_test (e_op (e_callY0 (ea_cons (e_var rfl (ea_cons (e_cb (ea_cons (e_lcL (js := [8]) (by simp) (e_var rfl ⟨_, .d _, by rw [List.length_map]; omega, fun i acc ms' => acc = (js.take i).map (fun j => .list (triJ j)) ∧ ms' = ms, ⟨rfl, rfl⟩, ?_, ?_⟩)))))))))
  · rintro i e acc ms' hi ⟨rfl, rfl⟩
    rw [List.getElem?_map] at hi
    cases q : js[i]? with
    | none => rw [q] at hi; cases hi
    | some j =>
      rw [q] at hi
      cases hi
      refine eg_name (et_yes ⟨fun _ => e_cb (ea_cons (e_var rfl (ea_nil (rc_list ⟨_, _, rfl, .inr (.d _), _, rfl, ?_, rfl⟩)))), nofun⟩)
      rw [take_snoc q, List.map_append]
      rfl
  rintro acc ms' ⟨rfl, rfl⟩
  rw [List.length_map, List.take_length]
  refine ea_nil (rc_tuple ⟨_, _, rfl, .inl (.d _), ?_⟩)
  refine ea_nil ⟨_, _, rfl, m, ts, _, rfl, rfl, hw, .inr ⟨_, js, rowsJ_lists, hl, jok, tell_of gr can ⟨fun _ => ?_, bad⟩⟩⟩
  refine e_var rfl (rr_ne ⟨_, _, .d _, .d _, sd.ok (by decide), sd.ok (by decide), ?_⟩)
  rw [eqv_self sd]
  refine ⟨false, rfl, nofun, fun _ => s_next ?_⟩
  have mx : mxG gs + 1 ≤ 60 := by have := (dueT_web hw hg gr.lt cs gd).1.m60; exact this
  have em1 : ((mxG gs + 1 : Nat) : Int) - 1 = ((mxG gs : Nat) : Int) := by omega
  refine s_seq (s_forR (js := [9]) (ea_cons (e_op (e_int (e_op (e_var rfl (e_int (rr_I0 ⟨_, _, rfl, rfl, ?_⟩))))))))
  rw [em1]
  refine rr_I ⟨_, _, rfl, rfl, ⟨by omega, by omega, by decide⟩, ?_⟩
  have pw : (1 : Int) * 2 ^ ((mxG gs : Nat) : Int).toNat < 2 ^ 62 ∧ 0 ≤ (1 : Int) * 2 ^ ((mxG gs : Nat) : Int).toNat := by
    have h1 : (2 : Nat) ^ (mxG gs) < 2 ^ 62 := Nat.pow_lt_pow_right (by decide) (by omega)
    have h2 : (1 : Int) * 2 ^ ((mxG gs : Nat) : Int).toNat = ((2 ^ (mxG gs) : Nat) : Int) := by
      rw [Int.toNat_natCast, Int.one_mul]
      push_cast
      rfl
    rw [h2]
    exact ⟨Int.ofNat_lt.mpr h1, Int.natCast_nonneg _⟩
  refine ea_nil ⟨_, rfl, by omega, fun i ds' ms2 => ∃ o9 o10 o11 : SD, ds' = [.d (encW m ts), .d (.list (js.map encJ)), .d (.tuple [.list (nD gs), .list (nD cs)]), .d (.list (nD gs)), .d (.list (nD cs)), .d (dueD gs cs ts), .d (.int (mxG gs + 1 : Nat)), .d (dueD gs cs ts), .u, o9, o10, o11] ∧ ms2 = ms', ⟨_, _, _, rfl, rfl⟩, ?_, ?_⟩
  · rintro i ds' ms2 hi ⟨o9, o10, o11, rfl, rfl⟩
    refine eg_name ?_
    refine s_seq (s_asg (e_cb (ea_cons (e_op (e_lst (ea_cons (e_int (ea_nil ⟨[_], rfl, Nat.le_of_ble_eq_true rfl, ?_⟩))))))))
    refine e_lcR (js := [11]) (by simp) (ea_cons (e_op (e_var rfl (e_int (rr_I0 ⟨_, _, rfl, rfl, ?_⟩)))))
    rw [em1]
    refine ea_nil ⟨_, rfl, by omega, fun k acc ms3 => ∃ ss : List Nat, acc = nD ss ∧ ss.length = k ∧ (∀ x ∈ ss, x < 2) ∧ ms3 = ms2, ⟨[], rfl, rfl, nofun, rfl⟩, ?_, ?_⟩
    · rintro k acc ms3 hk ⟨ss, rfl, hsl, hs2, rfl⟩
      refine eg_name (et_yes ⟨fun _ => e_op (e_op (e_var rfl (e_var rfl (rr_I ⟨_, _, rfl, rfl, by omega, ?_⟩)))), nofun⟩)
      refine e_int (rr_I ⟨_, _, rfl, rfl, by decide, ?_⟩)
      obtain ⟨b, hb, eb⟩ := fm_ex ((i : Int) / 2 ^ ((k : Nat) : Int).toNat) (m := 2) (by decide)
      rw [eb]
      refine ⟨_, rfl, ss ++ [b], by unfold nD; rw [List.map_append]; rfl, by simp [hsl], fun x hx => ?_, rfl⟩
      rcases List.mem_append.mp hx with z | z
      · exact hs2 x z
      · simp at z; omega
    rintro acc ms3 ⟨ss, rfl, hsl, hs2, rfl⟩
    have hsl : ss.length = mxG gs := by rw [hsl]; omega
    refine rr_cat ⟨_, _, rfl, rfl, by rw [List.length_map]; simp; omega, ?_⟩
    refine ea_nil (rc_tuple ⟨_, _, rfl, .inl (.d _), ?_⟩)
    refine s_if (et_not (et_B (e_call (ea_cons (e_var rfl (ea_cons (e_var rfl (ea_cons (e_var rfl (ea_cons (e_var rfl (ea_cons (e_var rfl (ea_cons (e_var rfl (ea_nil ?_))))))))))))))))
    refine ⟨_, _, _, _, _, _, rfl, m, ts, js, fs, gs, cs, 0 :: ss, rfl, rfl, rfl, rfl, rfl, rfl, hw, hj, hl, gr, can, gd, by simp [hsl], fun x hx => ?_, rfl, true, rfl, nofun, fun _ => s_next ⟨_, _, _, rfl, rfl⟩⟩
    rcases List.mem_cons.mp hx with z | z
    · omega
    · exact hs2 x z
  rintro ds' ms2 ⟨o9, o10, o11, rfl, rfl⟩
  exact s_ret (e_bl r)

def wrongL (m : Nat) : List PyData := [.none, .int 3, .str "01", .dict [], .list [.tuple [.int 0, .int 0, .int 0]], .list [.tuple [.int 0, .int m, .int 1]], .list [.tuple [.int (-1), .int 0, .int 1]], .list [.tuple [.int 0, .int 1]], .list [.int 7], .list [.tuple [.int 0, .int 1, .int 0, .int 0]],
  .list [.tuple [.int 0, .int 1, .int 2]], .list [.tuple [.int 0, .int 1, .bool true]], .list [.tuple [.int 0, .int 1, .none]], .list [.tuple [.str "0", .int 1, .int 1]], .list (List.replicate 121 (.tuple [.int 0, .int 1, .int 0]))]
theorem thing_one {m : Int} {x : PyData} (h : wishB m x = false) : thingB m (.list [x]) = false := by
  show (decide (1 ≤ 120) && [x].all (wishB m)) = false
  rw [List.all_cons, h]
  rfl
theorem wrongL_no {m : Nat} : ∀ x ∈ wrongL m, thingB m x = false := by
  intro x hx
  simp only [wrongL, List.mem_cons, List.not_mem_nil, or_false] at hx
  rcases hx with rfl | rfl | rfl | rfl | rfl | rfl | rfl | rfl | rfl | rfl | rfl | rfl | rfl | rfl | rfl
  · rfl
  · rfl
  · rfl
  · rfl
  · refine thing_one ?_
    show (unlB m (.int 0) (.int 0) && numB 2 (.int 0)) = false
    simp [unlB, numB, eqv_int]
  · refine thing_one ?_
    show (unlB m (.int 0) (.int m) && numB 2 (.int 1)) = false
    simp [unlB, numB, eqv_int]
  · refine thing_one ?_
    show (unlB m (.int (-1)) (.int 0) && numB 2 (.int 1)) = false
    simp [unlB, numB, eqv_int]
  · exact thing_one rfl
  · exact thing_one rfl
  · exact thing_one rfl
  · refine thing_one ?_
    show (unlB m (.int 0) (.int 1) && numB 2 (.int 2)) = false
    simp [numB]
  · refine thing_one ?_
    show (unlB m (.int 0) (.int 1) && numB 2 (.bool true)) = false
    simp [numB]
  · refine thing_one ?_
    show (unlB m (.int 0) (.int 1) && numB 2 .none) = false
    simp [numB]
  · refine thing_one ?_
    show (unlB m (.str "0") (.int 1) && numB 2 (.int 1)) = false
    simp [unlB, numB]
  · unfold thingB
    show (decide ((List.replicate 121 (PyData.tuple [.int 0, .int 1, .int 0])).length ≤ 120) && _) = false
    rw [List.length_replicate]
    rfl
def Φ__law_wrong_wishes : Ph := ph1 fun a ms R => ∃ m : Nat, a = .d (.int m) ∧ R (.f (wrongL m)) ms
theorem len__law_wrong_wishes : ∀ as ms R, Φ__law_wrong_wishes as ms R → as.length = 1 := ph1_len
theorem e_row3 {K : PySem.W.Frag} {ta tb tc : TE} {ds : List SD} {ms : List MD} {R : RS} (a b c : PyData) (h1 : ∀ {ms : List MD} {R : RS}, R (.d a) ms → E K ta ds ms R) (h2 : ∀ {ms : List MD} {R : RS}, R (.d b) ms → E K tb ds ms R) (h3 : ∀ {ms : List MD} {R : RS}, R (.d c) ms → E K tc ds ms R)
    (r : R (.f [.tuple [a, b, c]]) ms) : E K (tLst (tCons (tTup (tCons ta (tCons tb (tCons tc tNil)))) tNil)) ds ms R :=
  e_lst (ea_cons (e_tup (ea_cons (h1 (ea_cons (h2 (ea_cons (h3 (ea_nil ⟨[_, _, _], rfl, Nat.le_of_ble_eq_true rfl, ea_nil ⟨[_], rfl, Nat.le_of_ble_eq_true rfl, r⟩⟩)))))))))
theorem rd__law_wrong_wishes {K : PySem.W.Frag} : ∀ as ms R, Φ__law_wrong_wishes as ms R → S K (t__law_wrong_wishes K) (as ++ List.replicate (2 - as.length) .u) ms (fin R) := by
  rintro as ms R ⟨a, rfl, m, rfl, r⟩
  unfold t__law_wrong_wishes
  refine s_seq (s_asg (e_lst (ea_cons (e_non (ea_cons (e_int (ea_cons (e_str (ea_cons (e_dnewG ?_))))))))))
  refine ea_cons (e_row3 (.int 0) (.int 0) (.int 0) e_int e_int e_int ?_)
  refine ea_cons (e_row3 (.int 0) (.int m) (.int 1) e_int (fun h => e_var rfl h) e_int ?_)
  refine ea_cons (e_row3 (.int (-1)) (.int 0) (.int 1) (fun h => e_un (e_int (ru_I ⟨1, rfl, h⟩))) e_int e_int ?_)
  refine ea_cons (e_lst (ea_cons (e_tup (ea_cons (e_int (ea_cons (e_int (ea_nil ⟨[_, _], rfl, Nat.le_of_ble_eq_true rfl, ea_nil ⟨[_], rfl, Nat.le_of_ble_eq_true rfl, ?_⟩⟩))))))))
  refine ea_cons (e_lst (ea_cons (e_int (ea_nil ⟨[_], rfl, Nat.le_of_ble_eq_true rfl, ?_⟩))))
  refine ea_cons (e_lst (ea_cons (e_tup (ea_cons (e_int (ea_cons (e_int (ea_cons (e_int (ea_cons (e_int (ea_nil ⟨[_, _, _, _], rfl, Nat.le_of_ble_eq_true rfl, ea_nil ⟨[_], rfl, Nat.le_of_ble_eq_true rfl, ?_⟩⟩))))))))))))
  refine ea_nil ⟨[_, _, _, _, _, _, _, _, _, _], rfl, Nat.le_of_ble_eq_true rfl, ?_⟩
  refine s_ret (e_op (e_var rfl (e_lst (ea_cons (e_row3 (.int 0) (.int 1) (.int 2) e_int e_int e_int ?_)))))
  refine ea_cons (e_row3 (.int 0) (.int 1) (.bool true) e_int e_int e_bl ?_)
  refine ea_cons (e_row3 (.int 0) (.int 1) .none e_int e_int e_non ?_)
  refine ea_cons (e_row3 (.str "0") (.int 1) (.int 1) e_str e_int e_int ?_)
  refine ea_cons (e_op (e_row3 (.int 0) (.int 1) (.int 0) e_int e_int e_int (e_int (rr_rep ⟨_, 121, rfl, rfl, by decide, by decide, ?_⟩))))
  refine ea_nil ⟨[_, _, _, _, _], rfl, Nat.le_of_ble_eq_true rfl, rr_cat ⟨_, _, rfl, rfl, Nat.le_of_ble_eq_true rfl, ?_⟩⟩
  exact r

theorem goodB_glA (gs cs : List Nat) (ts : List Tie) : goodB gs cs ts = (glA gs cs ts).all fun e => smB (tieE e) := by
  unfold goodB dueT
  rw [List.all_map]
  exact (sA_perm (glA gs cs ts)).all_eq
def greatT : List Tie := [(0, 2, (1000000000, 1)), (1, 3, (1000000000, 1))]
def fineT : List Tie := [(0, 2, (1, 999)), (1, 3, (1, 1000))]
def someJ : List Jn := [(0, 1, 0), (2, 3, 0)]
theorem great_ok : WebOk 4 greatT := by
  refine ⟨fun t ht => ?_, by decide, by decide, by decide⟩
  simp only [greatT, List.mem_cons, List.not_mem_nil, or_false] at ht
  rcases ht with rfl | rfl
  · exact ⟨by decide, by decide, ⟨by decide, by decide⟩, Bd.of (by decide), Bd.of (by decide)⟩
  · exact ⟨by decide, by decide, ⟨by decide, by decide⟩, Bd.of (by decide), Bd.of (by decide)⟩
theorem fine_ok : WebOk 4 fineT := by
  refine ⟨fun t ht => ?_, by decide, by decide, by decide⟩
  simp only [fineT, List.mem_cons, List.not_mem_nil, or_false] at ht
  rcases ht with rfl | rfl
  · exact ⟨by decide, by decide, ⟨by decide, by decide⟩, Bd.of (by decide), Bd.of (by decide)⟩
  · exact ⟨by decide, by decide, ⟨by decide, by decide⟩, Bd.of (by decide), Bd.of (by decide)⟩
theorem some_ok : ∀ j ∈ someJ, jOk 4 j := by
  intro j hj
  simp only [someJ, List.mem_cons, List.not_mem_nil, or_false] at hj
  rcases hj with rfl | rfl
  · exact ⟨by decide, by decide, by decide, by decide⟩
  · exact ⟨by decide, by decide, by decide, by decide⟩
theorem some_can : Can 4 [0, 2] [0, 0, 1, 1] [0, 0, 0, 0] := by
  refine ⟨rfl, rfl, by decide, by decide, by decide, fun g f h => ?_, fun p hp => ?_⟩
  · match g, h with
    | 0, h => cases h; exact ⟨rfl, rfl⟩
    | 1, h => cases h; exact ⟨rfl, rfl⟩
    | k + 2, h => cases h
  · match p, hp with
    | 0, _ => exact ⟨0, rfl, by decide⟩
    | 1, _ => exact ⟨0, rfl, by decide⟩
    | 2, _ => exact ⟨2, rfl, by decide⟩
    | 3, _ => exact ⟨2, rfl, by decide⟩
    | k + 4, h => omega
theorem some_gr : GrOk 4 someJ [0, 0, 1, 1] [0, 0, 0, 0] := by
  refine ⟨rfl, rfl, by decide, by decide, fun s => ⟨fun k i j hi hj e => ?_, fun f j hj => ?_⟩⟩
  · have k1 : (s 0 + s 1) % 2 = 0 := k (0, 1, 0) (by simp [someJ])
    have k2 : (s 2 + s 3) % 2 = 0 := k (2, 3, 0) (by simp [someJ])
    match i, j, hi, hj, e with
    | 0, 0, _, _, _ => rfl
    | 0, 1, _, _, _ => show (0 + s 0) % 2 = (0 + s 1) % 2; omega
    | 1, 0, _, _, _ => show (0 + s 1) % 2 = (0 + s 0) % 2; omega
    | 1, 1, _, _, _ => rfl
    | 2, 2, _, _, _ => rfl
    | 2, 3, _, _, _ => show (0 + s 2) % 2 = (0 + s 3) % 2; omega
    | 3, 2, _, _, _ => show (0 + s 3) % 2 = (0 + s 2) % 2; omega
    | 3, 3, _, _, _ => rfl
    | 0, 2, _, _, e => cases e
    | 0, 3, _, _, e => cases e
    | 1, 2, _, _, e => cases e
    | 1, 3, _, _, e => cases e
    | 2, 0, _, _, e => cases e
    | 2, 1, _, _, e => cases e
    | 3, 0, _, _, e => cases e
    | 3, 1, _, _, e => cases e
    | k + 4, _, h, _, _ => omega
    | _, k + 4, _, h, _ => omega
  · simp only [someJ, List.mem_cons, List.not_mem_nil, or_false] at hj
    rcases hj with rfl | rfl
    · have : (0 + s 0) % 2 = (0 + s 1) % 2 := f 0 1 (by decide) (by decide) rfl
      show (s 0 + s 1) % 2 = 0
      omega
    · have : (0 + s 2) % 2 = (0 + s 3) % 2 := f 2 3 (by decide) (by decide) rfl
      show (s 2 + s 3) % 2 = 0
      omega
def oddJ : List Jn := [(0, 1, 1), (1, 0, 1), (3, 2, 1)]
theorem odd_no {j : Jn} (hj : j ∈ oddJ) : jOk 4 j ∧ (∀ s, ¬ KeepF (someJ ++ [j]) s) ∧ ∀ s, ¬ KeepF (j :: someJ) s := by
  have key : ∀ (s : Nat → Nat), (∀ y ∈ someJ, (s y.1 + s y.2.1) % 2 = y.2.2) → (s j.1 + s j.2.1) % 2 = j.2.2 → False := by
    intro s h1 h2
    have k1 : (s 0 + s 1) % 2 = 0 := h1 (0, 1, 0) (by simp [someJ])
    have k2 : (s 2 + s 3) % 2 = 0 := h1 (2, 3, 0) (by simp [someJ])
    simp only [oddJ, List.mem_cons, List.not_mem_nil, or_false] at hj
    rcases hj with rfl | rfl | rfl
    · have h2 : (s 0 + s 1) % 2 = 1 := h2
      omega
    · have h2 : (s 1 + s 0) % 2 = 1 := h2
      omega
    · have h2 : (s 3 + s 2) % 2 = 1 := h2
      omega
  refine ⟨?_, fun s k => key s (fun y hy => k y (by simp [hy])) (k j (by simp)), fun s k => key s (fun y hy => k y (by simp [hy])) (k j (by simp))⟩
  simp only [oddJ, List.mem_cons, List.not_mem_nil, or_false] at hj
  rcases hj with rfl | rfl | rfl
  · exact ⟨by decide, by decide, by decide, by decide⟩
  · exact ⟨by decide, by decide, by decide, by decide⟩
  · exact ⟨by decide, by decide, by decide, by decide⟩
theorem great_bad : goodB [0, 0, 1, 1] [0, 0, 0, 0] greatT = false := by rw [goodB_glA]; decide +kernel
theorem fine_bad : goodB [0, 0, 1, 1] [0, 0, 0, 0] fineT = false := by rw [goodB_glA]; decide +kernel
theorem shp_js (js : List Jn) : Shp 2 (.list (js.map encJ)) := Shp.lst fun e he => by
  obtain ⟨j, _, rfl⟩ := List.mem_map.mp he
  exact Shp.tup (Shp.ints [_, _, _])
def Φ_law : Ph := ph1 fun a ms R => ∃ ns : List Int, a = .s ns ∧ ns.length ≤ 63 ∧ ms = [] ∧ R (.d (.bool true)) ms
theorem len_law : ∀ as ms R, Φ_law as ms R → as.length = 1 := ph1_len
theorem law_at {K : PySem.W.Frag} {H : Hp} {a : Addr} {ns : List Int} (hl : ns.length ≤ 63) (hO : Only H) (hS : SqL K H a (ns.map V.int)) : SpD K Φ_law [.ref a] H (fun v _ => v = .bl true) fun _ _ _ => False :=
  ⟨[], [], [], [.s ns], fun s _ => s = .d (.bool true), at_nil, ⟨.ref a, [], rfl, at_door hO hS, rfl⟩, ⟨_, rfl, ns, rfl, hl, rfl, rfl⟩, fun s v H' ms' w o e => by
    subst e
    obtain ⟨_, h⟩ := o
    cases h
    rfl⟩
theorem rd_law {K : PySem.W.Frag} {mg : Str → Option Value} {C_CutError C_NoWeb C_NoSide C_NoWishes C_TooGreat : Addr} (cl : Cls K mg C_CutError C_NoWeb C_NoSide C_NoWishes C_TooGreat) : ∀ as ms R, Φ_law as ms R →
    S K (t_law K C_CutError C_NoWeb C_NoSide C_NoWishes C_TooGreat Φ__law_stream Φ__law_cell_at Φ__law_web Φ__law_wishes Φ__law_right Φ__law_wrong_wishes Φ__law_refused (Φ__law_caught C_CutError C_NoWeb C_NoSide C_NoWishes C_TooGreat) (Φ_glued C_CutError C_NoWeb C_NoSide C_NoWishes C_TooGreat)) (as ++ List.replicate (12 - as.length) .u) ms (fin R) := by
  rintro as ms R ⟨a, rfl, ns, rfl, hns, rfl, r⟩
  unfold t_law
  refine s_seq ?_
  refine s_forR (js := [1]) ?_
  walk_at "evs"
  refine rc_len ⟨_, _, rfl, .inl (.s ns), ?_⟩
  walk_at "evs"
  refine ⟨?_, fun k ds' ms' => ∃ o1 o2 o3 o4 o5 o6 o7 o8 o9 o10 o11 : SD, ds' = [.s ns, o1, o2, o3, o4, o5, o6, o7, o8, o9, o10, o11] ∧ ms' = [], ⟨.u, .u, .u, .u, .u, .u, .u, .u, .u, .u, .u, rfl, rfl⟩, ?_, ?_⟩
  · rw [List.length_map]
    constructor <;> split <;> split <;> omega
  · rintro k ds' ms' hk ⟨o1, o2, o3, o4, o5, o6, o7, o8, o9, o10, o11, rfl, rfl⟩
    refine eg_name ?_
    refine s_new ?_
    walk_at "evs"
    refine ⟨_, _, rfl, ns, k, rfl, rfl, fun c => ?_⟩
    walk_at "evs"
    refine ⟨_, _, rfl, _, 34, rfl, rfl, by decide, fun xs => ?_⟩
    refine ⟨_, rfl, ?_⟩
    refine s_seq (s_asg (e_call (ea_cons (e_varm rfl (ea_cons (e_int (ea_nil ⟨_, _, rfl, 0, xs, 6, rfl, rfl, rfl, by decide, by decide, fun m ts xs2 m6 hw _ _ _ => ?_⟩)))))))
    have m1 := hw.m1
    refine s_seq (s_asg (e_call (ea_cons (e_op (e_var rfl (e_int (rr_ix ⟨_, _, _, .inr (.d _), rfl, atI_nat (j := 0) rfl, ?_⟩)))))))
    refine ea_cons (e_varm rfl (ea_nil ⟨_, _, rfl, m, 0, xs2, rfl, rfl, rfl, m1, by omega, fun js xs3 hj hl => ?_⟩))
    refine s_seq (s_asg (e_cb (ea_cons (e_var rfl (ea_nil (rc_list ⟨_, _, rfl, .inl (.d _), ?_⟩))))))
    have sj := shp_js js
    refine s_seq (s_if (et_or (et_not (et_B (e_call (ea_cons (e_var rfl (ea_cons (e_var rfl (ea_nil ⟨_, _, rfl, m, ts, js, rfl, rfl, hw, hj, by omega, true, rfl, nofun, fun _ => ?_⟩))))))))))
    refine et_test (e_op (e_var rfl (e_var rfl (rr_ne ⟨_, _, .d _, .d _, sj.ok (by decide), sj.ok (by decide), ?_⟩))))
    rw [eqv_self sj]
    refine ⟨false, rfl, nofun, fun _ => s_next ?_⟩
    refine s_forL (js := [6]) (e_call (ea_cons (e_op (e_var rfl (e_int (rr_ix ⟨_, _, _, .inr (.d _), rfl, atI_nat (j := 0) rfl, ?_⟩))))))
    refine ea_nil ⟨_, rfl, m, rfl, _, .d _, fun i ds' ms' => ∃ o6 o7 o8 o9 o10 o11 : SD, ds' = [.s ns, .d (.int k), .m 0, .d (encW m ts), .d (.list (js.map encJ)), .d (.list (js.map encJ)), o6, o7, o8, o9, o10, o11] ∧ ms' = [.l (xs3.map .int)], ⟨_, _, _, _, _, _, rfl, rfl⟩, ?_, ?_⟩
    · rintro i e ds' ms' hi ⟨o6, o7, o8, o9, o10, o11, rfl, rfl⟩
      refine eg_name ?_
      exact s_if (et_not (et_B (e_call (ea_cons (e_var rfl (ea_cons (e_var rfl (ea_nil ⟨_, _, rfl, m, ts, e, rfl, rfl, hw, wrongL_no e (List.mem_of_getElem? hi), true, rfl, nofun, fun _ => s_next ⟨_, _, _, _, _, _, rfl, rfl⟩⟩))))))))
    rintro ds' ms' ⟨o6, o7, o8, o9, o10, o11, rfl, rfl⟩
    exact ⟨[], _, rfl, rfl, _, _, _, _, _, _, _, _, _, _, _, rfl, rfl⟩
  rintro ds' ms' ⟨o1, o2, o3, o4, o5, o6, o7, o8, o9, o10, o11, rfl, rfl⟩
  have p9 : (10 : Int) ^ (9 : Int).toNat = 1000000000 := by decide
  refine s_seq (s_asg (e_tup (ea_cons (e_op (e_int (e_int (rr_I ⟨_, _, rfl, rfl, ⟨by decide, by decide, by decide⟩, ?_⟩)))))))
  rw [p9]
  refine ea_cons (e_int (ea_nil ⟨[_, _], rfl, Nat.le_of_ble_eq_true rfl, ?_⟩))
  have web2 : ∀ {ds : List SD} {ms : List MD} {i : Nat} {P : Po} {tw1 tw2 u : TE} (f1 f2 : Int × Int), (∀ {ms : List MD} {R : RS}, R (.d (pr f1)) ms → E K tw1 ds ms R) → (∀ {ms : List MD} {R : RS}, R (.d (pr f2)) ms → E K tw2 ds ms R) → P.nx (ds.set i (.d (encW 4 [(0, 2, f1), (1, 3, f2)]))) ms →
      S K (tAsg (tTup (tCons (tC (.int 4)) (tCons (tTup (tCons (tTup (tCons (tC (.int 0)) (tCons (tC (.int 2)) (tCons tw1 tNil)))) (tCons (tTup (tCons (tC (.int 1)) (tCons (tC (.int 3)) (tCons tw2 tNil)))) tNil))) tNil))) (gName i)) ds ms P := fun f1 f2 h1 h2 h =>
    s_asg (e_tup (ea_cons (e_int (ea_cons (e_tup (ea_cons (e_tup (ea_cons (e_int (ea_cons (e_int (ea_cons (h1 (ea_nil ⟨[_, _, _], rfl, Nat.le_of_ble_eq_true rfl, ea_cons (e_tup (ea_cons (e_int (ea_cons (e_int (ea_cons (h2 (ea_nil ⟨[_, _, _], rfl, Nat.le_of_ble_eq_true rfl, ea_nil ⟨[_, _], rfl, Nat.le_of_ble_eq_true rfl, ea_nil ⟨[_, _], rfl, Nat.le_of_ble_eq_true rfl, h⟩⟩⟩))))))))⟩))))))))))))))
  have e_fr : ∀ {ds : List SD} {ms : List MD} {R : RS} (a b : Int), R (.d (pr (a, b))) ms → E K (tTup (tCons (tC (.int a)) (tCons (tC (.int b)) tNil))) ds ms R := fun a b h => e_tup (ea_cons (e_int (ea_cons (e_int (ea_nil ⟨[_, _], rfl, Nat.le_of_ble_eq_true rfl, h⟩)))))
  refine s_seq (web2 (u := tC .non) (1000000000, 1) (1000000000, 1) (fun h => e_var rfl h) (fun h => e_var rfl h) ?_)
  refine s_seq (web2 (u := tC .non) (1, 999) (1, 1000) (fun h => e_fr 1 999 h) (fun h => e_fr 1 1000 h) ?_)
  have e_j : ∀ {ds : List SD} {ms : List MD} {R : RS} (a b c : Nat), R (.d (encJ (a, b, c))) ms → E K (tTup (tCons (tC (.int a)) (tCons (tC (.int b)) (tCons (tC (.int c)) tNil)))) ds ms R := fun a b c h => e_tup (ea_cons (e_int (ea_cons (e_int (ea_cons (e_int (ea_nil ⟨[_, _, _], rfl, Nat.le_of_ble_eq_true rfl, h⟩)))))))
  refine s_seq (s_asg (e_lst (ea_cons (e_j 0 1 0 (ea_cons (e_j 2 3 0 (ea_nil ⟨[_, _], rfl, Nat.le_of_ble_eq_true rfl, ?_⟩)))))))
  have right : ∀ {ts : List Tie} {js : List Jn} {P : Prop}, WebOk 4 ts → (∀ j ∈ js, jOk 4 j) → js.length ≤ 120 → P → Φ__law_right [.d (encW 4 ts), .d (.list (js.map encJ))] [] (fun s _ => ∃ b, s = .d (.bool b) ∧ b = true ∧ P) := fun h1 h2 h3 p =>
    ⟨_, _, rfl, 4, _, _, rfl, rfl, h1, h2, h3, true, rfl, rfl, p⟩
  refine s_seq (s_if (et_or (et_not (et_B (e_call (ea_cons (e_var rfl (ea_cons (e_var rfl (ea_nil ⟨_, _, rfl, 4, greatT, someJ, rfl, rfl, great_ok, some_ok, by decide, true, rfl, nofun, fun _ => ?_⟩))))))))))
  refine et_or (et_not (et_B (e_call (ea_cons (e_var rfl (ea_cons (e_var rfl (ea_nil ⟨_, _, rfl, 4, fineT, someJ, rfl, rfl, fine_ok, some_ok, by decide, true, rfl, nofun, fun _ => ?_⟩))))))))
  refine et_not (et_B (e_call (ea_cons (e_var rfl (ea_cons (e_lst (ea_cons (e_j 0 1 0 (ea_cons (e_j 3 2 1 (ea_nil ⟨[_, _], rfl, Nat.le_of_ble_eq_true rfl, ?_⟩)))))))))))
  refine ea_nil ⟨_, _, rfl, 4, greatT, [(0, 1, 0), (3, 2, 1)], rfl, rfl, great_ok, fun j hj => ?_, by decide, true, rfl, nofun, fun _ => s_next ?_⟩
  · simp only [List.mem_cons, List.not_mem_nil, or_false] at hj
    rcases hj with rfl | rfl
    · exact ⟨by decide, by decide, by decide, by decide⟩
    · exact ⟨by decide, by decide, by decide, by decide⟩
  have jk : ∀ {js : List Jn}, (∀ j ∈ js, jOk 4 j) → js.length ≤ 120 → JOk 4 js := fun h1 h2 => ⟨by decide, by omega, h1⟩
  refine s_seq (s_forL (js := [3]) (e_lst (ea_cons (e_var rfl (ea_cons (e_var rfl (ea_nil ⟨[_, _], rfl, Nat.le_of_ble_eq_true rfl, _, .d _, fun i ds' ms' => ∃ o1 o2 o3 o4 o5 o6 o11 : SD, ds' = [.s ns, o1, o2, o3, o4, o5, o6, .d (pr (1000000000, 1)), .d (encW 4 greatT), .d (encW 4 fineT), .d (.list (someJ.map encJ)), o11] ∧ ms' = [], ⟨_, _, _, _, _, _, _, rfl, rfl⟩, ?_, ?_⟩)))))))
  · rintro i e ds' ms' hi ⟨o1, o2, o3, o4, o5, o6, o11, rfl, rfl⟩
    obtain ⟨ts, rfl, hw, bad⟩ : ∃ ts, e = encW 4 ts ∧ WebOk 4 ts ∧ goodB [0, 0, 1, 1] [0, 0, 0, 0] ts = false := by
      have := List.mem_of_getElem? hi
      simp only [List.mem_cons, List.not_mem_nil, or_false] at this
      rcases this with rfl | rfl
      · exact ⟨greatT, rfl, great_ok, great_bad⟩
      · exact ⟨fineT, rfl, fine_ok, fine_bad⟩
    refine eg_name ?_
    refine s_seq (s_if (et_not (et_B (e_isHE (fun _ h => h) (e_call (ea_cons (e_var rfl (ea_cons (e_var rfl (ea_nil ⟨_, _, rfl, 4, ts, _, rfl, rfl, hw, .inr ⟨_, someJ, rowsJ_list, by decide, jk some_ok (by decide), tell_of some_gr some_can ⟨fun z => ?_, fun _ => ?_⟩⟩⟩))))))))) )
    · rw [bad] at z; cases z
    refine ⟨_, true, cl.er_TooGreat.e, rfl, kit_same, true, rfl, nofun, fun _ => s_next ?_⟩
    refine s_forL (js := [11]) (e_lst (ea_cons (e_j 0 1 1 (ea_cons (e_j 1 0 1 (ea_cons (e_j 3 2 1 (ea_nil ⟨[_, _, _], rfl, Nat.le_of_ble_eq_true rfl, _, .d _, fun i ds' ms' => ∃ o11 : SD, ds' = [.s ns, o1, o2, .d (encW 4 ts), o4, o5, o6, .d (pr (1000000000, 1)), .d (encW 4 greatT), .d (encW 4 fineT), .d (.list (someJ.map encJ)), o11] ∧ ms' = [], ⟨_, rfl, rfl⟩, ?_, ?_⟩))))))))
    · rintro i e ds' ms' hi ⟨o11, rfl, rfl⟩
      obtain ⟨j, rfl, hj⟩ : ∃ j, e = encJ j ∧ j ∈ oddJ := by
        have := List.mem_of_getElem? hi
        simp only [List.mem_cons, List.not_mem_nil, or_false] at this
        rcases this with rfl | rfl | rfl
        · exact ⟨(0, 1, 1), rfl, by simp [oddJ]⟩
        · exact ⟨(1, 0, 1), rfl, by simp [oddJ]⟩
        · exact ⟨(3, 2, 1), rfl, by simp [oddJ]⟩
      obtain ⟨jo, n1, n2⟩ := odd_no hj
      have a1 : ∀ y ∈ someJ ++ [j], jOk 4 y := fun y hy => by
        rcases List.mem_append.mp hy with z | z
        · exact some_ok y z
        · simp only [List.mem_singleton] at z; rw [z]; exact jo
      have a2 : ∀ y ∈ j :: someJ, jOk 4 y := fun y hy => by
        rcases List.mem_cons.mp hy with z | z
        · rw [z]; exact jo
        · exact some_ok y z
      refine eg_name (s_if (et_or (et_test (e_op (e_callY0 (ea_cons (e_var rfl (ea_cons (e_op (e_var rfl (e_lst (ea_cons (e_var rfl (ea_nil ⟨[_], rfl, Nat.le_of_ble_eq_true rfl, rr_cat ⟨_, _, rfl, rfl, Nat.le_of_ble_eq_true rfl, ?_⟩⟩))))))))))))) )
      refine ea_nil ⟨_, _, rfl, 4, ts, .list ((someJ ++ [j]).map encJ), rfl, rfl, hw, .inr ⟨_, someJ ++ [j], rowsJ_list, by simp [someJ], jk a1 (by simp [someJ]), tell_no n1 ?_⟩⟩
      refine e_non (rr_notN ⟨_, rfl, rfl, false, rfl, nofun, fun _ => ?_⟩)
      refine et_test (e_op (e_callY0 (ea_cons (e_var rfl (ea_cons (e_cb (ea_cons (e_op (e_lst (ea_cons (e_var rfl (ea_nil ⟨[_], rfl, Nat.le_of_ble_eq_true rfl, e_var rfl (rr_cat ⟨_, _, rfl, rfl, Nat.le_of_ble_eq_true rfl, ?_⟩)⟩))))))))))) )
      refine ea_nil (rc_tuple ⟨_, _, rfl, .inl (.d _), ?_⟩)
      refine ea_nil ⟨_, _, rfl, 4, ts, .tuple ((j :: someJ).map encJ), rfl, rfl, hw, .inr ⟨_, j :: someJ, rowsJ_tup, by simp [someJ], jk a2 (by simp [someJ]), tell_no n2 ?_⟩⟩
      exact e_non (rr_notN ⟨_, rfl, rfl, false, rfl, nofun, fun _ => s_next ⟨_, rfl, rfl⟩⟩)
    rintro ds' ms' ⟨o11, rfl, rfl⟩
    exact ⟨_, _, _, _, _, _, _, rfl, rfl⟩
  rintro ds' ms' ⟨o1, o2, o3, o4, o5, o6, o11, rfl, rfl⟩
  exact s_ret (e_bl r)

theorem ok_is_whole {Pg : Program} {w : World} {K : PySem.W.Frag} {mg : Str → Option Value} {base : Heap} {f : Addr} {fd : FuncData} (F : Fun K "is_whole" "is_whole" s_is_whole f fd) (hm : mg "is_whole" = some (.ref f)) (B : ∀ x, x ∈ blt → mg x = none) (cs : Csts mg) : Kn Pg w K mg base "is_whole" 1 ["thing"] Φ_is_whole :=
  ⟨f, fd, ok_of F sc_is_whole len_is_whole (by decide) (fun cdv A outer s H E hr => ⟨_, dv_is_whole hr B cs, rd_is_whole⟩), hm, F.kp, F.binds fun _ _ _ _ _ _ us hl => match us, hl with | [_], _ => rfl⟩
theorem ok_is_row {Pg : Program} {w : World} {K : PySem.W.Frag} {mg : Str → Option Value} {base : Heap} {f : Addr} {fd : FuncData} (F : Fun K "is_row" "is_row" s_is_row f fd) (hm : mg "is_row" = some (.ref f)) (B : ∀ x, x ∈ blt → mg x = none) (cs : Csts mg) : Kn Pg w K mg base "is_row" 1 ["thing"] Φ_is_row :=
  ⟨f, fd, ok_of F sc_is_row len_is_row (by decide) (fun cdv A outer s H E hr => ⟨_, dv_is_row hr B cs, rd_is_row⟩), hm, F.kp, F.binds fun _ _ _ _ _ _ us hl => match us, hl with | [_], _ => rfl⟩
theorem ok_is_triple {Pg : Program} {w : World} {K : PySem.W.Frag} {mg : Str → Option Value} {base : Heap} {f : Addr} {fd : FuncData} (F : Fun K "is_triple" "is_triple" s_is_triple f fd) (hm : mg "is_triple" = some (.ref f)) (B : ∀ x, x ∈ blt → mg x = none) (cs : Csts mg) (g_is_row : Kn Pg w K mg base "is_row" 1 ["thing"] Φ_is_row) : Kn Pg w K mg base "is_triple" 2 ["thing"] Φ_is_triple :=
  ⟨f, fd, ok_of F sc_is_triple len_is_triple (by decide) (fun cdv A outer s H E hr => ⟨_, dv_is_triple hr B cs g_is_row, rd_is_triple⟩), hm, F.kp, F.binds fun _ _ _ _ _ _ us hl => match us, hl with | [_], _ => rfl⟩
theorem ok_is_number_of {Pg : Program} {w : World} {K : PySem.W.Frag} {mg : Str → Option Value} {base : Heap} {f : Addr} {fd : FuncData} (F : Fun K "is_number_of" "is_number_of" s_is_number_of f fd) (hm : mg "is_number_of" = some (.ref f)) (B : ∀ x, x ∈ blt → mg x = none) (cs : Csts mg) (g_is_whole : Kn Pg w K mg base "is_whole" 1 ["thing"] Φ_is_whole) : Kn Pg w K mg base "is_number_of" 2 ["many", "thing"] Φ_is_number_of :=
  ⟨f, fd, ok_of F sc_is_number_of len_is_number_of (by decide) (fun cdv A outer s H E hr => ⟨_, dv_is_number_of hr B cs g_is_whole, rd_is_number_of⟩), hm, F.kp, F.binds fun _ _ _ _ _ _ us hl => match us, hl with | [_, _], _ => rfl⟩
theorem ok_are_unlike_points {Pg : Program} {w : World} {K : PySem.W.Frag} {mg : Str → Option Value} {base : Heap} {f : Addr} {fd : FuncData} (F : Fun K "are_unlike_points" "are_unlike_points" s_are_unlike_points f fd) (hm : mg "are_unlike_points" = some (.ref f)) (B : ∀ x, x ∈ blt → mg x = none) (cs : Csts mg) (g_is_number_of : Kn Pg w K mg base "is_number_of" 2 ["many", "thing"] Φ_is_number_of) : Kn Pg w K mg base "are_unlike_points" 3 ["many", "one", "other"] Φ_are_unlike_points :=
  ⟨f, fd, ok_of F sc_are_unlike_points len_are_unlike_points (by decide) (fun cdv A outer s H E hr => ⟨_, dv_are_unlike_points hr B cs g_is_number_of, rd_are_unlike_points⟩), hm, F.kp, F.binds fun _ _ _ _ _ _ us hl => match us, hl with | [_, _, _], _ => rfl⟩
theorem ok_common_divisor {Pg : Program} {w : World} {K : PySem.W.Frag} {mg : Str → Option Value} {base : Heap} {f : Addr} {fd : FuncData} (F : Fun K "common_divisor" "common_divisor" s_common_divisor f fd) (hm : mg "common_divisor" = some (.ref f)) (B : ∀ x, x ∈ blt → mg x = none) (cs : Csts mg) : Kn Pg w K mg base "common_divisor" 1 ["one", "other"] Φ_common_divisor :=
  ⟨f, fd, ok_of F sc_common_divisor len_common_divisor (by decide) (fun cdv A outer s H E hr => ⟨_, dv_common_divisor hr B cs, rd_common_divisor⟩), hm, F.kp, F.binds fun _ _ _ _ _ _ us hl => match us, hl with | [_, _], _ => rfl⟩
theorem ok_is_fraction {Pg : Program} {w : World} {K : PySem.W.Frag} {mg : Str → Option Value} {base : Heap} {f : Addr} {fd : FuncData} (F : Fun K "is_fraction" "is_fraction" s_is_fraction f fd) (hm : mg "is_fraction" = some (.ref f)) (B : ∀ x, x ∈ blt → mg x = none) (cs : Csts mg) (g_is_whole : Kn Pg w K mg base "is_whole" 1 ["thing"] Φ_is_whole) (g_common_divisor : Kn Pg w K mg base "common_divisor" 1 ["one", "other"] Φ_common_divisor) : Kn Pg w K mg base "is_fraction" 2 ["thing"] Φ_is_fraction :=
  ⟨f, fd, ok_of F sc_is_fraction len_is_fraction (by decide) (fun cdv A outer s H E hr => ⟨_, dv_is_fraction hr B cs g_is_whole g_common_divisor, rd_is_fraction⟩), hm, F.kp, F.binds fun _ _ _ _ _ _ us hl => match us, hl with | [_], _ => rfl⟩
theorem ok_as_fraction {Pg : Program} {w : World} {K : PySem.W.Frag} {mg : Str → Option Value} {base : Heap} {f : Addr} {fd : FuncData} (F : Fun K "as_fraction" "as_fraction" s_as_fraction f fd) (hm : mg "as_fraction" = some (.ref f)) (B : ∀ x, x ∈ blt → mg x = none) (cs : Csts mg) (g_common_divisor : Kn Pg w K mg base "common_divisor" 1 ["one", "other"] Φ_common_divisor) : Kn Pg w K mg base "as_fraction" 2 ["top", "bottom"] Φ_as_fraction :=
  ⟨f, fd, ok_of F sc_as_fraction len_as_fraction (by decide) (fun cdv A outer s H E hr => ⟨_, dv_as_fraction hr B cs g_common_divisor, rd_as_fraction⟩), hm, F.kp, F.binds fun _ _ _ _ _ _ us hl => match us, hl with | [_, _], _ => rfl⟩
theorem ok_plus {Pg : Program} {w : World} {K : PySem.W.Frag} {mg : Str → Option Value} {base : Heap} {f : Addr} {fd : FuncData} (F : Fun K "plus" "plus" s_plus f fd) (hm : mg "plus" = some (.ref f)) (B : ∀ x, x ∈ blt → mg x = none) (cs : Csts mg) (g_as_fraction : Kn Pg w K mg base "as_fraction" 2 ["top", "bottom"] Φ_as_fraction) : Kn Pg w K mg base "plus" 3 ["one", "other"] Φ_plus :=
  ⟨f, fd, ok_of F sc_plus len_plus (by decide) (fun cdv A outer s H E hr => ⟨_, dv_plus hr B cs g_as_fraction, rd_plus⟩), hm, F.kp, F.binds fun _ _ _ _ _ _ us hl => match us, hl with | [_, _], _ => rfl⟩
theorem ok_added {Pg : Program} {w : World} {K : PySem.W.Frag} {mg : Str → Option Value} {base : Heap} {f : Addr} {fd : FuncData} (F : Fun K "added" "added" s_added f fd) (hm : mg "added" = some (.ref f)) (B : ∀ x, x ∈ blt → mg x = none) (cs : Csts mg) (g_plus : Kn Pg w K mg base "plus" 3 ["one", "other"] Φ_plus) : Kn Pg w K mg base "added" 4 ["terms"] Φ_added :=
  ⟨f, fd, ok_of F sc_added len_added (by decide) (fun cdv A outer s H E hr => ⟨_, dv_added hr B cs g_plus, rd_added⟩), hm, F.kp, F.binds fun _ _ _ _ _ _ us hl => match us, hl with | [_], _ => rfl⟩
theorem ok_is_weight {Pg : Program} {w : World} {K : PySem.W.Frag} {mg : Str → Option Value} {base : Heap} {f : Addr} {fd : FuncData} (F : Fun K "is_weight" "is_weight" s_is_weight f fd) (hm : mg "is_weight" = some (.ref f)) (B : ∀ x, x ∈ blt → mg x = none) (cs : Csts mg) (g_is_fraction : Kn Pg w K mg base "is_fraction" 2 ["thing"] Φ_is_fraction) : Kn Pg w K mg base "is_weight" 3 ["thing"] Φ_is_weight :=
  ⟨f, fd, ok_of F sc_is_weight len_is_weight (by decide) (fun cdv A outer s H E hr => ⟨_, dv_is_weight hr B cs g_is_fraction, rd_is_weight⟩), hm, F.kp, F.binds fun _ _ _ _ _ _ us hl => match us, hl with | [_], _ => rfl⟩
theorem ok_told_tie {Pg : Program} {w : World} {K : PySem.W.Frag} {mg : Str → Option Value} {base : Heap} {f : Addr} {fd : FuncData} (F : Fun K "told_tie" "told_tie" s_told_tie f fd) (hm : mg "told_tie" = some (.ref f)) (B : ∀ x, x ∈ blt → mg x = none) (cs : Csts mg) (g_is_triple : Kn Pg w K mg base "is_triple" 2 ["thing"] Φ_is_triple) (g_is_weight : Kn Pg w K mg base "is_weight" 3 ["thing"] Φ_is_weight) (g_are_unlike_points : Kn Pg w K mg base "are_unlike_points" 3 ["many", "one", "other"] Φ_are_unlike_points) : Kn Pg w K mg base "told_tie" 4 ["many", "thing"] Φ_told_tie :=
  ⟨f, fd, ok_of F sc_told_tie len_told_tie (by decide) (fun cdv A outer s H E hr => ⟨_, dv_told_tie hr B cs g_is_triple g_is_weight g_are_unlike_points, rd_told_tie⟩), hm, F.kp, F.binds fun _ _ _ _ _ _ us hl => match us, hl with | [_, _], _ => rfl⟩
theorem ok_made_web {Pg : Program} {w : World} {K : PySem.W.Frag} {mg : Str → Option Value} {base : Heap} {f : Addr} {fd : FuncData} (F : Fun K "made_web" "made_web" s_made_web f fd) (hm : mg "made_web" = some (.ref f)) (B : ∀ x, x ∈ blt → mg x = none) (cs : Csts mg) {C_CutError C_NoWeb C_NoSide C_NoWishes C_TooGreat : Addr} (cl : Cls K mg C_CutError C_NoWeb C_NoSide C_NoWishes C_TooGreat) (g_is_whole : Kn Pg w K mg base "is_whole" 1 ["thing"] Φ_is_whole) (g_is_row : Kn Pg w K mg base "is_row" 1 ["thing"] Φ_is_row) (g_told_tie : Kn Pg w K mg base "told_tie" 4 ["many", "thing"] Φ_told_tie) : KnX Pg w K mg base "made_web" 5 ["many", "ties"] C_NoWeb Φ_made_web :=
  ⟨f, fd, okX_of F sc_made_web len_made_web (by decide) (t_made_web K C_CutError C_NoWeb C_NoSide C_NoWishes C_TooGreat Φ_is_whole Φ_is_row Φ_told_tie) (fun cdv A outer s H E hr => dv_made_web hr B cs cl g_is_whole g_is_row g_told_tie) rd_made_web, hm, F.kp, F.binds fun _ _ _ _ _ _ us hl => match us, hl with | [_, _], _ => rfl⟩
theorem ok_made_side {Pg : Program} {w : World} {K : PySem.W.Frag} {mg : Str → Option Value} {base : Heap} {f : Addr} {fd : FuncData} (F : Fun K "made_side" "made_side" s_made_side f fd) (hm : mg "made_side" = some (.ref f)) (B : ∀ x, x ∈ blt → mg x = none) (cs : Csts mg) {C_CutError C_NoWeb C_NoSide C_NoWishes C_TooGreat : Addr} (cl : Cls K mg C_CutError C_NoWeb C_NoSide C_NoWishes C_TooGreat) (g_is_row : Kn Pg w K mg base "is_row" 1 ["thing"] Φ_is_row) (g_is_number_of : Kn Pg w K mg base "is_number_of" 2 ["many", "thing"] Φ_is_number_of) : KnX Pg w K mg base "made_side" 3 ["web", "bits"] C_NoSide Φ_made_side :=
  ⟨f, fd, okX_of F sc_made_side len_made_side (by decide) (t_made_side K C_CutError C_NoWeb C_NoSide C_NoWishes C_TooGreat Φ_is_row Φ_is_number_of) (fun cdv A outer s H E hr => dv_made_side hr B cs cl g_is_row g_is_number_of) rd_made_side, hm, F.kp, F.binds fun _ _ _ _ _ _ us hl => match us, hl with | [_, _], _ => rfl⟩
theorem ok_side_of_bits {Pg : Program} {w : World} {K : PySem.W.Frag} {mg : Str → Option Value} {base : Heap} {f : Addr} {fd : FuncData} (F : Fun K "side_of_bits" "side_of_bits" s_side_of_bits f fd) (hm : mg "side_of_bits" = some (.ref f)) (B : ∀ x, x ∈ blt → mg x = none) (cs : Csts mg) {C_CutError C_NoWeb C_NoSide C_NoWishes C_TooGreat : Addr} (cl : Cls K mg C_CutError C_NoWeb C_NoSide C_NoWishes C_TooGreat) (g_made_side : KnX Pg w K mg base "made_side" 3 ["web", "bits"] C_NoSide Φ_made_side) : Kn Pg w K mg base "side_of_bits" 4 ["web", "groups", "marks", "bits"] Φ_side_of_bits :=
  ⟨f, fd, ok_of F sc_side_of_bits len_side_of_bits (by decide) (fun cdv A outer s H E hr => ⟨_, dv_side_of_bits hr B cs cl g_made_side, rd_side_of_bits⟩), hm, F.kp, F.binds fun _ _ _ _ _ _ us hl => match us, hl with | [_, _, _, _], _ => rfl⟩
theorem ok_joins_at {Pg : Program} {w : World} {K : PySem.W.Frag} {mg : Str → Option Value} {base : Heap} {f : Addr} {fd : FuncData} (F : Fun K "joins_at" "joins_at" s_joins_at f fd) (hm : mg "joins_at" = some (.ref f)) (B : ∀ x, x ∈ blt → mg x = none) (cs : Csts mg) : Kn Pg w K mg base "joins_at" 1 ["many", "joins"] Φ_joins_at :=
  ⟨f, fd, ok_of F sc_joins_at len_joins_at (by decide) (fun cdv A outer s H E hr => ⟨_, dv_joins_at hr B cs, rd_joins_at⟩), hm, F.kp, F.binds fun _ _ _ _ _ _ us hl => match us, hl with | [_, _], _ => rfl⟩
theorem ok_group_from {Pg : Program} {w : World} {K : PySem.W.Frag} {mg : Str → Option Value} {base : Heap} {f : Addr} {fd : FuncData} (F : Fun K "group_from" "group_from" s_group_from f fd) (hm : mg "group_from" = some (.ref f)) (B : ∀ x, x ∈ blt → mg x = none) (cs : Csts mg) : Kn Pg w K mg base "group_from" 1 ["near", "first"] Φ_group_from :=
  ⟨f, fd, ok_of F sc_group_from len_group_from (by decide) (fun cdv A outer s H E hr => ⟨_, dv_group_from hr B cs, rd_group_from⟩), hm, F.kp, F.binds fun _ _ _ _ _ _ us hl => match us, hl with | [_, _], _ => rfl⟩
theorem ok_spread {Pg : Program} {w : World} {K : PySem.W.Frag} {mg : Str → Option Value} {base : Heap} {f : Addr} {fd : FuncData} (F : Fun K "spread" "spread" s_spread f fd) (hm : mg "spread" = some (.ref f)) (B : ∀ x, x ∈ blt → mg x = none) (cs : Csts mg) (g_joins_at : Kn Pg w K mg base "joins_at" 1 ["many", "joins"] Φ_joins_at) (g_group_from : Kn Pg w K mg base "group_from" 1 ["near", "first"] Φ_group_from) : Kn Pg w K mg base "spread" 2 ["many", "joins"] Φ_spread :=
  ⟨f, fd, ok_of F sc_spread len_spread (by decide) (fun cdv A outer s H E hr => ⟨_, dv_spread hr B cs g_joins_at g_group_from, rd_spread⟩), hm, F.kp, F.binds fun _ _ _ _ _ _ us hl => match us, hl with | [_, _], _ => rfl⟩
theorem ok_ring_closed {Pg : Program} {w : World} {K : PySem.W.Frag} {mg : Str → Option Value} {base : Heap} {f : Addr} {fd : FuncData} (F : Fun K "ring_closed" "ring_closed" s_ring_closed f fd) (hm : mg "ring_closed" = some (.ref f)) (B : ∀ x, x ∈ blt → mg x = none) (cs : Csts mg) : Kn Pg w K mg base "ring_closed" 1 ["way", "other_way", "number"] Φ_ring_closed :=
  ⟨f, fd, ok_of F sc_ring_closed len_ring_closed (by decide) (fun cdv A outer s H E hr => ⟨_, dv_ring_closed hr B cs, rd_ring_closed⟩), hm, F.kp, F.binds fun _ _ _ _ _ _ us hl => match us, hl with | [_, _, _], _ => rfl⟩
theorem ok_odd_rings {Pg : Program} {w : World} {K : PySem.W.Frag} {mg : Str → Option Value} {base : Heap} {f : Addr} {fd : FuncData} (F : Fun K "odd_rings" "odd_rings" s_odd_rings f fd) (hm : mg "odd_rings" = some (.ref f)) (B : ∀ x, x ∈ blt → mg x = none) (cs : Csts mg) (g_ring_closed : Kn Pg w K mg base "ring_closed" 1 ["way", "other_way", "number"] Φ_ring_closed) : Kn Pg w K mg base "odd_rings" 2 ["joins", "marks", "ways"] Φ_odd_rings :=
  ⟨f, fd, ok_of F sc_odd_rings len_odd_rings (by decide) (fun cdv A outer s H E hr => ⟨_, dv_odd_rings hr B cs g_ring_closed, rd_odd_rings⟩), hm, F.kp, F.binds fun _ _ _ _ _ _ us hl => match us, hl with | [_, _, _], _ => rfl⟩
theorem ok_parted {Pg : Program} {w : World} {K : PySem.W.Frag} {mg : Str → Option Value} {base : Heap} {f : Addr} {fd : FuncData} (F : Fun K "parted" "parted" s_parted f fd) (hm : mg "parted" = some (.ref f)) (B : ∀ x, x ∈ blt → mg x = none) (cs : Csts mg) (g_spread : Kn Pg w K mg base "spread" 2 ["many", "joins"] Φ_spread) (g_odd_rings : Kn Pg w K mg base "odd_rings" 2 ["joins", "marks", "ways"] Φ_odd_rings) : Kn Pg w K mg base "parted" 3 ["many", "joins"] Φ_parted :=
  ⟨f, fd, ok_of F sc_parted len_parted (by decide) (fun cdv A outer s H E hr => ⟨_, dv_parted hr B cs g_spread g_odd_rings, rd_parted⟩), hm, F.kp, F.binds fun _ _ _ _ _ _ us hl => match us, hl with | [_, _], _ => rfl⟩
theorem ok_is_wish {Pg : Program} {w : World} {K : PySem.W.Frag} {mg : Str → Option Value} {base : Heap} {f : Addr} {fd : FuncData} (F : Fun K "is_wish" "is_wish" s_is_wish f fd) (hm : mg "is_wish" = some (.ref f)) (B : ∀ x, x ∈ blt → mg x = none) (cs : Csts mg) (g_is_triple : Kn Pg w K mg base "is_triple" 2 ["thing"] Φ_is_triple) (g_is_number_of : Kn Pg w K mg base "is_number_of" 2 ["many", "thing"] Φ_is_number_of) (g_are_unlike_points : Kn Pg w K mg base "are_unlike_points" 3 ["many", "one", "other"] Φ_are_unlike_points) : Kn Pg w K mg base "is_wish" 4 ["web", "thing"] Φ_is_wish :=
  ⟨f, fd, ok_of F sc_is_wish len_is_wish (by decide) (fun cdv A outer s H E hr => ⟨_, dv_is_wish hr B cs g_is_triple g_is_number_of g_are_unlike_points, rd_is_wish⟩), hm, F.kp, F.binds fun _ _ _ _ _ _ us hl => match us, hl with | [_, _], _ => rfl⟩
theorem ok_made_wishes {Pg : Program} {w : World} {K : PySem.W.Frag} {mg : Str → Option Value} {base : Heap} {f : Addr} {fd : FuncData} (F : Fun K "made_wishes" "made_wishes" s_made_wishes f fd) (hm : mg "made_wishes" = some (.ref f)) (B : ∀ x, x ∈ blt → mg x = none) (cs : Csts mg) {C_CutError C_NoWeb C_NoSide C_NoWishes C_TooGreat : Addr} (cl : Cls K mg C_CutError C_NoWeb C_NoSide C_NoWishes C_TooGreat) (g_is_row : Kn Pg w K mg base "is_row" 1 ["thing"] Φ_is_row) (g_is_wish : Kn Pg w K mg base "is_wish" 4 ["web", "thing"] Φ_is_wish) : KnX Pg w K mg base "made_wishes" 5 ["web", "thing"] C_NoWishes Φ_made_wishes :=
  ⟨f, fd, okX_of F sc_made_wishes len_made_wishes (by decide) (t_made_wishes K C_CutError C_NoWeb C_NoSide C_NoWishes C_TooGreat Φ_is_row Φ_is_wish) (fun cdv A outer s H E hr => dv_made_wishes hr B cs cl g_is_row g_is_wish) rd_made_wishes, hm, F.kp, F.binds fun _ _ _ _ _ _ us hl => match us, hl with | [_, _], _ => rfl⟩
theorem ok_grouped {Pg : Program} {w : World} {K : PySem.W.Frag} {mg : Str → Option Value} {base : Heap} {f : Addr} {fd : FuncData} (F : Fun K "grouped" "grouped" s_grouped f fd) (hm : mg "grouped" = some (.ref f)) (B : ∀ x, x ∈ blt → mg x = none) (cs : Csts mg) {C_CutError C_NoWeb C_NoSide C_NoWishes C_TooGreat : Addr} (cl : Cls K mg C_CutError C_NoWeb C_NoSide C_NoWishes C_TooGreat) (g_parted : Kn Pg w K mg base "parted" 3 ["many", "joins"] Φ_parted) (g_made_wishes : KnX Pg w K mg base "made_wishes" 5 ["web", "thing"] C_NoWishes Φ_made_wishes) : KnY Pg w K mg base "grouped" 6 ["web", "wishes"] (Φ_grouped C_CutError C_NoWeb C_NoSide C_NoWishes C_TooGreat) :=
  ⟨f, fd, okY_of F sc_grouped len_grouped (by decide) (t_grouped K C_CutError C_NoWeb C_NoSide C_NoWishes C_TooGreat Φ_parted Φ_made_wishes) (fun cdv A outer s H E hr => dv_grouped hr B cs cl g_parted g_made_wishes) rd_grouped, hm, F.kp, F.binds fun _ _ _ _ _ _ us hl => match us, hl with | [_, _], _ => rfl⟩
theorem ok_unlike_weights {Pg : Program} {w : World} {K : PySem.W.Frag} {mg : Str → Option Value} {base : Heap} {f : Addr} {fd : FuncData} (F : Fun K "unlike_weights" "unlike_weights" s_unlike_weights f fd) (hm : mg "unlike_weights" = some (.ref f)) (B : ∀ x, x ∈ blt → mg x = none) (cs : Csts mg) : Kn Pg w K mg base "unlike_weights" 1 ["web", "marks"] Φ_unlike_weights :=
  ⟨f, fd, ok_of F sc_unlike_weights len_unlike_weights (by decide) (fun cdv A outer s H E hr => ⟨_, dv_unlike_weights hr B cs, rd_unlike_weights⟩), hm, F.kp, F.binds fun _ _ _ _ _ _ us hl => match us, hl with | [_, _], _ => rfl⟩
theorem ok_terms_between {Pg : Program} {w : World} {K : PySem.W.Frag} {mg : Str → Option Value} {base : Heap} {f : Addr} {fd : FuncData} (F : Fun K "terms_between" "terms_between" s_terms_between f fd) (hm : mg "terms_between" = some (.ref f)) (B : ∀ x, x ∈ blt → mg x = none) (cs : Csts mg) : Kn Pg w K mg base "terms_between" 1 ["web", "groups", "marks"] Φ_terms_between :=
  ⟨f, fd, ok_of F sc_terms_between len_terms_between (by decide) (fun cdv A outer s H E hr => ⟨_, dv_terms_between hr B cs, rd_terms_between⟩), hm, F.kp, F.binds fun _ _ _ _ _ _ us hl => match us, hl with | [_, _, _], _ => rfl⟩
theorem ok_glued {Pg : Program} {w : World} {K : PySem.W.Frag} {mg : Str → Option Value} {base : Heap} {f : Addr} {fd : FuncData} (F : Fun K "glued" "glued" s_glued f fd) (hm : mg "glued" = some (.ref f)) (B : ∀ x, x ∈ blt → mg x = none) (cs : Csts mg) {C_CutError C_NoWeb C_NoSide C_NoWishes C_TooGreat : Addr} (cl : Cls K mg C_CutError C_NoWeb C_NoSide C_NoWishes C_TooGreat) (g_grouped : KnY Pg w K mg base "grouped" 6 ["web", "wishes"] (Φ_grouped C_CutError C_NoWeb C_NoSide C_NoWishes C_TooGreat)) (g_terms_between : Kn Pg w K mg base "terms_between" 1 ["web", "groups", "marks"] Φ_terms_between) (g_added : Kn Pg w K mg base "added" 4 ["terms"] Φ_added) (g_is_weight : Kn Pg w K mg base "is_weight" 3 ["thing"] Φ_is_weight) (g_unlike_weights : Kn Pg w K mg base "unlike_weights" 1 ["web", "marks"] Φ_unlike_weights) (g_made_web : KnX Pg w K mg base "made_web" 5 ["many", "ties"] C_NoWeb Φ_made_web) : KnY Pg w K mg base "glued" 7 ["web", "wishes"] (Φ_glued C_CutError C_NoWeb C_NoSide C_NoWishes C_TooGreat) :=
  ⟨f, fd, okY_of F sc_glued len_glued (by decide) (t_glued K C_CutError C_NoWeb C_NoSide C_NoWishes C_TooGreat (Φ_grouped C_CutError C_NoWeb C_NoSide C_NoWishes C_TooGreat) Φ_terms_between Φ_added Φ_is_weight Φ_unlike_weights Φ_made_web) (fun cdv A outer s H E hr => dv_glued hr B cs cl g_grouped g_terms_between g_added g_is_weight g_unlike_weights g_made_web) rd_glued, hm, F.kp, F.binds fun _ _ _ _ _ _ us hl => match us, hl with | [_, _], _ => rfl⟩
theorem ok_led_back {Pg : Program} {w : World} {K : PySem.W.Frag} {mg : Str → Option Value} {base : Heap} {f : Addr} {fd : FuncData} (F : Fun K "led_back" "led_back" s_led_back f fd) (hm : mg "led_back" = some (.ref f)) (B : ∀ x, x ∈ blt → mg x = none) (cs : Csts mg) {C_CutError C_NoWeb C_NoSide C_NoWishes C_TooGreat : Addr} (cl : Cls K mg C_CutError C_NoWeb C_NoSide C_NoWishes C_TooGreat) (g_grouped : KnY Pg w K mg base "grouped" 6 ["web", "wishes"] (Φ_grouped C_CutError C_NoWeb C_NoSide C_NoWishes C_TooGreat)) (g_side_of_bits : Kn Pg w K mg base "side_of_bits" 4 ["web", "groups", "marks", "bits"] Φ_side_of_bits) : KnY Pg w K mg base "led_back" 7 ["web", "wishes", "side"] (Φ_led_back C_CutError C_NoWeb C_NoSide C_NoWishes C_TooGreat) :=
  ⟨f, fd, okY_of F sc_led_back len_led_back (by decide) (t_led_back K C_CutError C_NoWeb C_NoSide C_NoWishes C_TooGreat (Φ_grouped C_CutError C_NoWeb C_NoSide C_NoWishes C_TooGreat) Φ_side_of_bits) (fun cdv A outer s H E hr => dv_led_back hr B cs cl g_grouped g_side_of_bits) rd_led_back, hm, F.kp, F.binds fun _ _ _ _ _ _ us hl => match us, hl with | [_, _, _], _ => rfl⟩
theorem ok__law_cell_at {Pg : Program} {w : World} {K : PySem.W.Frag} {mg : Str → Option Value} {base : Heap} {f : Addr} {fd : FuncData} (F : Fun K "_law_cell_at" "_law_cell_at" s__law_cell_at f fd) (hm : mg "_law_cell_at" = some (.ref f)) (B : ∀ x, x ∈ blt → mg x = none) (cs : Csts mg) : Kn Pg w K mg base "_law_cell_at" 1 ["_law_script", "_law_k"] Φ__law_cell_at :=
  ⟨f, fd, ok_of F sc__law_cell_at len__law_cell_at (by decide) (fun cdv A outer s H E hr => ⟨_, dv__law_cell_at hr B cs, rd__law_cell_at⟩), hm, F.kp, F.binds fun _ _ _ _ _ _ us hl => match us, hl with | [_, _], _ => rfl⟩
theorem ok__law_stream {Pg : Program} {w : World} {K : PySem.W.Frag} {mg : Str → Option Value} {base : Heap} {f : Addr} {fd : FuncData} (F : Fun K "_law_stream" "_law_stream" s__law_stream f fd) (hm : mg "_law_stream" = some (.ref f)) (B : ∀ x, x ∈ blt → mg x = none) (cs : Csts mg) : Kn Pg w K mg base "_law_stream" 1 ["_law_cell", "_law_many"] Φ__law_stream :=
  ⟨f, fd, ok_of F sc__law_stream len__law_stream (by decide) (fun cdv A outer s H E hr => ⟨_, dv__law_stream hr B cs, rd__law_stream⟩), hm, F.kp, F.binds fun _ _ _ _ _ _ us hl => match us, hl with | [_, _], _ => rfl⟩
theorem ok__law_take {Pg : Program} {w : World} {K : PySem.W.Frag} {mg : Str → Option Value} {base : Heap} {f : Addr} {fd : FuncData} (F : Fun K "_law_take" "_law_take" s__law_take f fd) (hm : mg "_law_take" = some (.ref f)) (B : ∀ x, x ∈ blt → mg x = none) (cs : Csts mg) : Kn Pg w K mg base "_law_take" 1 ["_law_xs"] Φ__law_take :=
  ⟨f, fd, ok_of F sc__law_take len__law_take (by decide) (fun cdv A outer s H E hr => ⟨_, dv__law_take hr B cs, rd__law_take⟩), hm, F.kp, F.binds fun _ _ _ _ _ _ us hl => match us, hl with | [_], _ => rfl⟩
theorem ok__law_reduced {Pg : Program} {w : World} {K : PySem.W.Frag} {mg : Str → Option Value} {base : Heap} {f : Addr} {fd : FuncData} (F : Fun K "_law_reduced" "_law_reduced" s__law_reduced f fd) (hm : mg "_law_reduced" = some (.ref f)) (B : ∀ x, x ∈ blt → mg x = none) (cs : Csts mg) : Kn Pg w K mg base "_law_reduced" 1 ["_law_top", "_law_bottom"] Φ__law_reduced :=
  ⟨f, fd, ok_of F sc__law_reduced len__law_reduced (by decide) (fun cdv A outer s H E hr => ⟨_, dv__law_reduced hr B cs, rd__law_reduced⟩), hm, F.kp, F.binds fun _ _ _ _ _ _ us hl => match us, hl with | [_, _], _ => rfl⟩
theorem ok__law_weight {Pg : Program} {w : World} {K : PySem.W.Frag} {mg : Str → Option Value} {base : Heap} {f : Addr} {fd : FuncData} (F : Fun K "_law_weight" "_law_weight" s__law_weight f fd) (hm : mg "_law_weight" = some (.ref f)) (B : ∀ x, x ∈ blt → mg x = none) (cs : Csts mg) (g__law_reduced : Kn Pg w K mg base "_law_reduced" 1 ["_law_top", "_law_bottom"] Φ__law_reduced) : Kn Pg w K mg base "_law_weight" 2 ["_law_number"] Φ__law_weight :=
  ⟨f, fd, ok_of F sc__law_weight len__law_weight (by decide) (fun cdv A outer s H E hr => ⟨_, dv__law_weight hr B cs g__law_reduced, rd__law_weight⟩), hm, F.kp, F.binds fun _ _ _ _ _ _ us hl => match us, hl with | [_], _ => rfl⟩
theorem ok__law_web {Pg : Program} {w : World} {K : PySem.W.Frag} {mg : Str → Option Value} {base : Heap} {f : Addr} {fd : FuncData} (F : Fun K "_law_web" "_law_web" s__law_web f fd) (hm : mg "_law_web" = some (.ref f)) (B : ∀ x, x ∈ blt → mg x = none) (cs : Csts mg) (g__law_take : Kn Pg w K mg base "_law_take" 1 ["_law_xs"] Φ__law_take) (g__law_weight : Kn Pg w K mg base "_law_weight" 2 ["_law_number"] Φ__law_weight) : Kn Pg w K mg base "_law_web" 3 ["_law_xs", "_law_most"] Φ__law_web :=
  ⟨f, fd, ok_of F sc__law_web len__law_web (by decide) (fun cdv A outer s H E hr => ⟨_, dv__law_web hr B cs g__law_take g__law_weight, rd__law_web⟩), hm, F.kp, F.binds fun _ _ _ _ _ _ us hl => match us, hl with | [_, _], _ => rfl⟩
theorem ok__law_groups {Pg : Program} {w : World} {K : PySem.W.Frag} {mg : Str → Option Value} {base : Heap} {f : Addr} {fd : FuncData} (F : Fun K "_law_groups" "_law_groups" s__law_groups f fd) (hm : mg "_law_groups" = some (.ref f)) (B : ∀ x, x ∈ blt → mg x = none) (cs : Csts mg) : Kn Pg w K mg base "_law_groups" 1 ["_law_many", "_law_wishes_here"] Φ__law_groups :=
  ⟨f, fd, ok_of F sc__law_groups len__law_groups (by decide) (fun cdv A outer s H E hr => ⟨_, dv__law_groups hr B cs, rd__law_groups⟩), hm, F.kp, F.binds fun _ _ _ _ _ _ us hl => match us, hl with | [_, _], _ => rfl⟩
theorem ok__law_wishes {Pg : Program} {w : World} {K : PySem.W.Frag} {mg : Str → Option Value} {base : Heap} {f : Addr} {fd : FuncData} (F : Fun K "_law_wishes" "_law_wishes" s__law_wishes f fd) (hm : mg "_law_wishes" = some (.ref f)) (B : ∀ x, x ∈ blt → mg x = none) (cs : Csts mg) (g__law_take : Kn Pg w K mg base "_law_take" 1 ["_law_xs"] Φ__law_take) : Kn Pg w K mg base "_law_wishes" 2 ["_law_many", "_law_xs"] Φ__law_wishes :=
  ⟨f, fd, ok_of F sc__law_wishes len__law_wishes (by decide) (fun cdv A outer s H E hr => ⟨_, dv__law_wishes hr B cs g__law_take, rd__law_wishes⟩), hm, F.kp, F.binds fun _ _ _ _ _ _ us hl => match us, hl with | [_, _], _ => rfl⟩
theorem ok__law_plus {Pg : Program} {w : World} {K : PySem.W.Frag} {mg : Str → Option Value} {base : Heap} {f : Addr} {fd : FuncData} (F : Fun K "_law_plus" "_law_plus" s__law_plus f fd) (hm : mg "_law_plus" = some (.ref f)) (B : ∀ x, x ∈ blt → mg x = none) (cs : Csts mg) (g__law_reduced : Kn Pg w K mg base "_law_reduced" 1 ["_law_top", "_law_bottom"] Φ__law_reduced) : Kn Pg w K mg base "_law_plus" 2 ["_law_one", "_law_other"] Φ__law_plus :=
  ⟨f, fd, ok_of F sc__law_plus len__law_plus (by decide) (fun cdv A outer s H E hr => ⟨_, dv__law_plus hr B cs g__law_reduced, rd__law_plus⟩), hm, F.kp, F.binds fun _ _ _ _ _ _ us hl => match us, hl with | [_, _], _ => rfl⟩
theorem ok__law_weight_of {Pg : Program} {w : World} {K : PySem.W.Frag} {mg : Str → Option Value} {base : Heap} {f : Addr} {fd : FuncData} (F : Fun K "_law_weight_of" "_law_weight_of" s__law_weight_of f fd) (hm : mg "_law_weight_of" = some (.ref f)) (B : ∀ x, x ∈ blt → mg x = none) (cs : Csts mg) (g__law_plus : Kn Pg w K mg base "_law_plus" 2 ["_law_one", "_law_other"] Φ__law_plus) : Kn Pg w K mg base "_law_weight_of" 3 ["_law_web_here", "_law_bits"] Φ__law_weight_of :=
  ⟨f, fd, ok_of F sc__law_weight_of len__law_weight_of (by decide) (fun cdv A outer s H E hr => ⟨_, dv__law_weight_of hr B cs g__law_plus, rd__law_weight_of⟩), hm, F.kp, F.binds fun _ _ _ _ _ _ us hl => match us, hl with | [_, _], _ => rfl⟩
theorem ok__law_due {Pg : Program} {w : World} {K : PySem.W.Frag} {mg : Str → Option Value} {base : Heap} {f : Addr} {fd : FuncData} (F : Fun K "_law_due" "_law_due" s__law_due f fd) (hm : mg "_law_due" = some (.ref f)) (B : ∀ x, x ∈ blt → mg x = none) (cs : Csts mg) (g__law_plus : Kn Pg w K mg base "_law_plus" 2 ["_law_one", "_law_other"] Φ__law_plus) : Kn Pg w K mg base "_law_due" 3 ["_law_web_here", "_law_groups_here", "_law_marks"] Φ__law_due :=
  ⟨f, fd, ok_of F sc__law_due len__law_due (by decide) (fun cdv A outer s H E hr => ⟨_, dv__law_due hr B cs g__law_plus, rd__law_due⟩), hm, F.kp, F.binds fun _ _ _ _ _ _ us hl => match us, hl with | [_, _, _], _ => rfl⟩
theorem ok__law_may_be {Pg : Program} {w : World} {K : PySem.W.Frag} {mg : Str → Option Value} {base : Heap} {f : Addr} {fd : FuncData} (F : Fun K "_law_may_be" "_law_may_be" s__law_may_be f fd) (hm : mg "_law_may_be" = some (.ref f)) (B : ∀ x, x ∈ blt → mg x = none) (cs : Csts mg) : Kn Pg w K mg base "_law_may_be" 1 ["_law_web_here"] Φ__law_may_be :=
  ⟨f, fd, ok_of F sc__law_may_be len__law_may_be (by decide) (fun cdv A outer s H E hr => ⟨_, dv__law_may_be hr B cs, rd__law_may_be⟩), hm, F.kp, F.binds fun _ _ _ _ _ _ us hl => match us, hl with | [_], _ => rfl⟩
theorem ok__law_caught {Pg : Program} {w : World} {K : PySem.W.Frag} {mg : Str → Option Value} {base : Heap} {f : Addr} {fd : FuncData} (F : Fun K "_law_caught" "_law_caught" s__law_caught f fd) (hm : mg "_law_caught" = some (.ref f)) (B : ∀ x, x ∈ blt → mg x = none) (cs : Csts mg) {C_CutError C_NoWeb C_NoSide C_NoWishes C_TooGreat : Addr} (cl : Cls K mg C_CutError C_NoWeb C_NoSide C_NoWishes C_TooGreat) (g_glued : KnY Pg w K mg base "glued" 7 ["web", "wishes"] (Φ_glued C_CutError C_NoWeb C_NoSide C_NoWishes C_TooGreat)) : Kn Pg w K mg base "_law_caught" 8 ["_law_web_here", "_law_wishes_here"] (Φ__law_caught C_CutError C_NoWeb C_NoSide C_NoWishes C_TooGreat) :=
  ⟨f, fd, ok_of F sc__law_caught len__law_caught (by decide) (fun cdv A outer s H E hr => ⟨_, dv__law_caught hr B cs cl g_glued, rd__law_caught cl⟩), hm, F.kp, F.binds fun _ _ _ _ _ _ us hl => match us, hl with | [_, _], _ => rfl⟩
theorem ok__law_refused {Pg : Program} {w : World} {K : PySem.W.Frag} {mg : Str → Option Value} {base : Heap} {f : Addr} {fd : FuncData} (F : Fun K "_law_refused" "_law_refused" s__law_refused f fd) (hm : mg "_law_refused" = some (.ref f)) (B : ∀ x, x ∈ blt → mg x = none) (cs : Csts mg) {C_CutError C_NoWeb C_NoSide C_NoWishes C_TooGreat : Addr} (cl : Cls K mg C_CutError C_NoWeb C_NoSide C_NoWishes C_TooGreat) (g__law_caught : Kn Pg w K mg base "_law_caught" 8 ["_law_web_here", "_law_wishes_here"] (Φ__law_caught C_CutError C_NoWeb C_NoSide C_NoWishes C_TooGreat)) : Kn Pg w K mg base "_law_refused" 9 ["_law_web_here", "_law_wishes_here"] Φ__law_refused :=
  ⟨f, fd, ok_of F sc__law_refused len__law_refused (by decide) (fun cdv A outer s H E hr => ⟨_, dv__law_refused hr B cs cl g__law_caught, rd__law_refused cl⟩), hm, F.kp, F.binds fun _ _ _ _ _ _ us hl => match us, hl with | [_, _], _ => rfl⟩
theorem ok__law_led {Pg : Program} {w : World} {K : PySem.W.Frag} {mg : Str → Option Value} {base : Heap} {f : Addr} {fd : FuncData} (F : Fun K "_law_led" "_law_led" s__law_led f fd) (hm : mg "_law_led" = some (.ref f)) (B : ∀ x, x ∈ blt → mg x = none) (cs : Csts mg) {C_CutError C_NoWeb C_NoSide C_NoWishes C_TooGreat : Addr} (cl : Cls K mg C_CutError C_NoWeb C_NoSide C_NoWishes C_TooGreat) (g_led_back : KnY Pg w K mg base "led_back" 7 ["web", "wishes", "side"] (Φ_led_back C_CutError C_NoWeb C_NoSide C_NoWishes C_TooGreat)) (g__law_weight_of : Kn Pg w K mg base "_law_weight_of" 3 ["_law_web_here", "_law_bits"] Φ__law_weight_of) (g__law_plus : Kn Pg w K mg base "_law_plus" 2 ["_law_one", "_law_other"] Φ__law_plus) : Kn Pg w K mg base "_law_led" 8 ["_law_web_here", "_law_wishes_here", "_law_groups_here", "_law_marks", "_law_due_here", "_law_side"] Φ__law_led :=
  ⟨f, fd, ok_of F sc__law_led len__law_led (by decide) (fun cdv A outer s H E hr => ⟨_, dv__law_led hr B cs cl g_led_back g__law_weight_of g__law_plus, rd__law_led⟩), hm, F.kp, F.binds fun _ _ _ _ _ _ us hl => match us, hl with | [_, _, _, _, _, _], _ => rfl⟩
theorem ok__law_right {Pg : Program} {w : World} {K : PySem.W.Frag} {mg : Str → Option Value} {base : Heap} {f : Addr} {fd : FuncData} (F : Fun K "_law_right" "_law_right" s__law_right f fd) (hm : mg "_law_right" = some (.ref f)) (B : ∀ x, x ∈ blt → mg x = none) (cs : Csts mg) {C_CutError C_NoWeb C_NoSide C_NoWishes C_TooGreat : Addr} (cl : Cls K mg C_CutError C_NoWeb C_NoSide C_NoWishes C_TooGreat) (g__law_groups : Kn Pg w K mg base "_law_groups" 1 ["_law_many", "_law_wishes_here"] Φ__law_groups) (g_glued : KnY Pg w K mg base "glued" 7 ["web", "wishes"] (Φ_glued C_CutError C_NoWeb C_NoSide C_NoWishes C_TooGreat)) (g__law_due : Kn Pg w K mg base "_law_due" 3 ["_law_web_here", "_law_groups_here", "_law_marks"] Φ__law_due) (g__law_may_be : Kn Pg w K mg base "_law_may_be" 1 ["_law_web_here"] Φ__law_may_be) (g__law_caught : Kn Pg w K mg base "_law_caught" 8 ["_law_web_here", "_law_wishes_here"] (Φ__law_caught C_CutError C_NoWeb C_NoSide C_NoWishes C_TooGreat)) (g__law_led : Kn Pg w K mg base "_law_led" 8 ["_law_web_here", "_law_wishes_here", "_law_groups_here", "_law_marks", "_law_due_here", "_law_side"] Φ__law_led) : Kn Pg w K mg base "_law_right" 9 ["_law_web_here", "_law_wishes_here"] Φ__law_right :=
  ⟨f, fd, ok_of F sc__law_right len__law_right (by decide) (fun cdv A outer s H E hr => ⟨_, dv__law_right hr B cs cl g__law_groups g_glued g__law_due g__law_may_be g__law_caught g__law_led, rd__law_right cl⟩), hm, F.kp, F.binds fun _ _ _ _ _ _ us hl => match us, hl with | [_, _], _ => rfl⟩
theorem ok__law_wrong_wishes {Pg : Program} {w : World} {K : PySem.W.Frag} {mg : Str → Option Value} {base : Heap} {f : Addr} {fd : FuncData} (F : Fun K "_law_wrong_wishes" "_law_wrong_wishes" s__law_wrong_wishes f fd) (hm : mg "_law_wrong_wishes" = some (.ref f)) (B : ∀ x, x ∈ blt → mg x = none) (cs : Csts mg) : Kn Pg w K mg base "_law_wrong_wishes" 1 ["_law_many"] Φ__law_wrong_wishes :=
  ⟨f, fd, ok_of F sc__law_wrong_wishes len__law_wrong_wishes (by decide) (fun cdv A outer s H E hr => ⟨_, dv__law_wrong_wishes hr B cs, rd__law_wrong_wishes⟩), hm, F.kp, F.binds fun _ _ _ _ _ _ us hl => match us, hl with | [_], _ => rfl⟩
theorem all_mk {l : PySem.W.OpenLaw} {w : World} {K : PySem.W.Frag} {h : Heap} {mg : Str → Option Value} {fa f1 f2 f3 f4 f5 f6 f7 f8 f9 f10 f11 f12 f13 f14 f15 f16 f17 f18 f19 f20 f21 f22 f23 f24 f25 f26 f27 f28 f29 f30 f31 f32 f33 f34 f35 f36 f37 f38 f39 f40 f41 f42 f43 f44 f45 f46 C_CutError C_NoWeb C_NoSide C_NoWishes C_TooGreat : Addr} (X : K.In h) (G : h.Ns mainGlobals mg) (hfa : mg "law" = some (.ref fa))
    {od1 an1 od2 an2 od3 an3 od4 an4 od5 an5 od6 an6 od7 an7 od8 an8 od9 an9 od10 an10 od11 an11 od12 an12 od13 an13 od14 an14 od15 an15 od16 an16 od17 an17 od18 an18 od19 an19 od20 an20 od21 an21 od22 an22 od23 an23 od24 an24 od25 an25 od26 an26 od27 an27 od28 an28 od29 an29 od30 an30 od31 an31 od32 an32 od33 an33 od34 an34 od35 an35 od36 an36 od37 an37 od38 an38 od39 an39 od40 an40 od41 an41 od42 an42 od43 an43 od44 an44 od45 an45 od46 an46 : Option Addr} {sl1 sl2 sl3 sl4 sl5 sl6 sl7 sl8 sl9 sl10 sl11 sl12 sl13 sl14 sl15 sl16 sl17 sl18 sl19 sl20 sl21 sl22 sl23 sl24 sl25 sl26 sl27 sl28 sl29 sl30 sl31 sl32 sl33 sl34 sl35 sl36 sl37 sl38 sl39 sl40 sl41 sl42 sl43 sl44 sl45 sl46 : Array (Option Value)} {oc1 kV1 dc1 pm1 cd1 ct1 oc2 kV2 dc2 pm2 cd2 ct2 oc3 kV3 dc3 pm3 cd3 ct3 oc4 kV4 dc4 pm4 cd4 ct4 oc5 kV5 dc5 pm5 cd5 ct5 oc6 kV6 dc6 pm6 cd6 ct6 oc7 kV7 dc7 pm7 cd7 ct7 oc8 kV8 dc8 pm8 cd8 ct8 oc9 kV9 dc9 pm9 cd9 ct9 oc10 kV10 dc10 pm10 cd10 ct10 oc11 kV11 dc11 pm11 cd11 ct11 oc12 kV12 dc12 pm12 cd12 ct12 oc13 kV13 dc13 pm13 cd13 ct13 oc14 kV14 dc14 pm14 cd14 ct14 oc15 kV15 dc15 pm15 cd15 ct15 oc16 kV16 dc16 pm16 cd16 ct16 oc17 kV17 dc17 pm17 cd17 ct17 oc18 kV18 dc18 pm18 cd18 ct18 oc19 kV19 dc19 pm19 cd19 ct19 oc20 kV20 dc20 pm20 cd20 ct20 oc21 kV21 dc21 pm21 cd21 ct21 oc22 kV22 dc22 pm22 cd22 ct22 oc23 kV23 dc23 pm23 cd23 ct23 oc24 kV24 dc24 pm24 cd24 ct24 oc25 kV25 dc25 pm25 cd25 ct25 oc26 kV26 dc26 pm26 cd26 ct26 oc27 kV27 dc27 pm27 cd27 ct27 oc28 kV28 dc28 pm28 cd28 ct28 oc29 kV29 dc29 pm29 cd29 ct29 oc30 kV30 dc30 pm30 cd30 ct30 oc31 kV31 dc31 pm31 cd31 ct31 oc32 kV32 dc32 pm32 cd32 ct32 oc33 kV33 dc33 pm33 cd33 ct33 oc34 kV34 dc34 pm34 cd34 ct34 oc35 kV35 dc35 pm35 cd35 ct35 oc36 kV36 dc36 pm36 cd36 ct36 oc37 kV37 dc37 pm37 cd37 ct37 oc38 kV38 dc38 pm38 cd38 ct38 oc39 kV39 dc39 pm39 cd39 ct39 oc40 kV40 dc40 pm40 cd40 ct40 oc41 kV41 dc41 pm41 cd41 ct41 oc42 kV42 dc42 pm42 cd42 ct42 oc43 kV43 dc43 pm43 cd43 ct43 oc44 kV44 dc44 pm44 cd44 ct44 oc45 kV45 dc45 pm45 cd45 ct45 oc46 kV46 dc46 pm46 cd46 ct46 : Value}
    (a1 : PySem.W.nsIn K mainGlobals "is_whole" = some (some (.ref f1))) (l1 : K.lookup f1 = some ⟨oc1, od1, .func (PySem.W.fnOf "is_whole" "is_whole" (defArgs s_is_whole) (defBody s_is_whole) (defScope s_is_whole) .none kV1 dc1 pm1 an1 cd1 ct1), sl1⟩) (c1 : PySem.W.codeIn K cd1 "is_whole" = true) (k1 : PySem.W.keepIn K (.ref f1) = true)
    (a2 : PySem.W.nsIn K mainGlobals "is_row" = some (some (.ref f2))) (l2 : K.lookup f2 = some ⟨oc2, od2, .func (PySem.W.fnOf "is_row" "is_row" (defArgs s_is_row) (defBody s_is_row) (defScope s_is_row) .none kV2 dc2 pm2 an2 cd2 ct2), sl2⟩) (c2 : PySem.W.codeIn K cd2 "is_row" = true) (k2 : PySem.W.keepIn K (.ref f2) = true)
    (a3 : PySem.W.nsIn K mainGlobals "is_triple" = some (some (.ref f3))) (l3 : K.lookup f3 = some ⟨oc3, od3, .func (PySem.W.fnOf "is_triple" "is_triple" (defArgs s_is_triple) (defBody s_is_triple) (defScope s_is_triple) .none kV3 dc3 pm3 an3 cd3 ct3), sl3⟩) (c3 : PySem.W.codeIn K cd3 "is_triple" = true) (k3 : PySem.W.keepIn K (.ref f3) = true)
    (a4 : PySem.W.nsIn K mainGlobals "is_number_of" = some (some (.ref f4))) (l4 : K.lookup f4 = some ⟨oc4, od4, .func (PySem.W.fnOf "is_number_of" "is_number_of" (defArgs s_is_number_of) (defBody s_is_number_of) (defScope s_is_number_of) .none kV4 dc4 pm4 an4 cd4 ct4), sl4⟩) (c4 : PySem.W.codeIn K cd4 "is_number_of" = true) (k4 : PySem.W.keepIn K (.ref f4) = true)
    (a5 : PySem.W.nsIn K mainGlobals "are_unlike_points" = some (some (.ref f5))) (l5 : K.lookup f5 = some ⟨oc5, od5, .func (PySem.W.fnOf "are_unlike_points" "are_unlike_points" (defArgs s_are_unlike_points) (defBody s_are_unlike_points) (defScope s_are_unlike_points) .none kV5 dc5 pm5 an5 cd5 ct5), sl5⟩) (c5 : PySem.W.codeIn K cd5 "are_unlike_points" = true) (k5 : PySem.W.keepIn K (.ref f5) = true)
    (a6 : PySem.W.nsIn K mainGlobals "common_divisor" = some (some (.ref f6))) (l6 : K.lookup f6 = some ⟨oc6, od6, .func (PySem.W.fnOf "common_divisor" "common_divisor" (defArgs s_common_divisor) (defBody s_common_divisor) (defScope s_common_divisor) .none kV6 dc6 pm6 an6 cd6 ct6), sl6⟩) (c6 : PySem.W.codeIn K cd6 "common_divisor" = true) (k6 : PySem.W.keepIn K (.ref f6) = true)
    (a7 : PySem.W.nsIn K mainGlobals "is_fraction" = some (some (.ref f7))) (l7 : K.lookup f7 = some ⟨oc7, od7, .func (PySem.W.fnOf "is_fraction" "is_fraction" (defArgs s_is_fraction) (defBody s_is_fraction) (defScope s_is_fraction) .none kV7 dc7 pm7 an7 cd7 ct7), sl7⟩) (c7 : PySem.W.codeIn K cd7 "is_fraction" = true) (k7 : PySem.W.keepIn K (.ref f7) = true)
    (a8 : PySem.W.nsIn K mainGlobals "as_fraction" = some (some (.ref f8))) (l8 : K.lookup f8 = some ⟨oc8, od8, .func (PySem.W.fnOf "as_fraction" "as_fraction" (defArgs s_as_fraction) (defBody s_as_fraction) (defScope s_as_fraction) .none kV8 dc8 pm8 an8 cd8 ct8), sl8⟩) (c8 : PySem.W.codeIn K cd8 "as_fraction" = true) (k8 : PySem.W.keepIn K (.ref f8) = true)
    (a9 : PySem.W.nsIn K mainGlobals "plus" = some (some (.ref f9))) (l9 : K.lookup f9 = some ⟨oc9, od9, .func (PySem.W.fnOf "plus" "plus" (defArgs s_plus) (defBody s_plus) (defScope s_plus) .none kV9 dc9 pm9 an9 cd9 ct9), sl9⟩) (c9 : PySem.W.codeIn K cd9 "plus" = true) (k9 : PySem.W.keepIn K (.ref f9) = true)
    (a10 : PySem.W.nsIn K mainGlobals "added" = some (some (.ref f10))) (l10 : K.lookup f10 = some ⟨oc10, od10, .func (PySem.W.fnOf "added" "added" (defArgs s_added) (defBody s_added) (defScope s_added) .none kV10 dc10 pm10 an10 cd10 ct10), sl10⟩) (c10 : PySem.W.codeIn K cd10 "added" = true) (k10 : PySem.W.keepIn K (.ref f10) = true)
    (a11 : PySem.W.nsIn K mainGlobals "is_weight" = some (some (.ref f11))) (l11 : K.lookup f11 = some ⟨oc11, od11, .func (PySem.W.fnOf "is_weight" "is_weight" (defArgs s_is_weight) (defBody s_is_weight) (defScope s_is_weight) .none kV11 dc11 pm11 an11 cd11 ct11), sl11⟩) (c11 : PySem.W.codeIn K cd11 "is_weight" = true) (k11 : PySem.W.keepIn K (.ref f11) = true)
    (a12 : PySem.W.nsIn K mainGlobals "told_tie" = some (some (.ref f12))) (l12 : K.lookup f12 = some ⟨oc12, od12, .func (PySem.W.fnOf "told_tie" "told_tie" (defArgs s_told_tie) (defBody s_told_tie) (defScope s_told_tie) .none kV12 dc12 pm12 an12 cd12 ct12), sl12⟩) (c12 : PySem.W.codeIn K cd12 "told_tie" = true) (k12 : PySem.W.keepIn K (.ref f12) = true)
    (a13 : PySem.W.nsIn K mainGlobals "made_web" = some (some (.ref f13))) (l13 : K.lookup f13 = some ⟨oc13, od13, .func (PySem.W.fnOf "made_web" "made_web" (defArgs s_made_web) (defBody s_made_web) (defScope s_made_web) .none kV13 dc13 pm13 an13 cd13 ct13), sl13⟩) (c13 : PySem.W.codeIn K cd13 "made_web" = true) (k13 : PySem.W.keepIn K (.ref f13) = true)
    (a14 : PySem.W.nsIn K mainGlobals "made_side" = some (some (.ref f14))) (l14 : K.lookup f14 = some ⟨oc14, od14, .func (PySem.W.fnOf "made_side" "made_side" (defArgs s_made_side) (defBody s_made_side) (defScope s_made_side) .none kV14 dc14 pm14 an14 cd14 ct14), sl14⟩) (c14 : PySem.W.codeIn K cd14 "made_side" = true) (k14 : PySem.W.keepIn K (.ref f14) = true)
    (a15 : PySem.W.nsIn K mainGlobals "side_of_bits" = some (some (.ref f15))) (l15 : K.lookup f15 = some ⟨oc15, od15, .func (PySem.W.fnOf "side_of_bits" "side_of_bits" (defArgs s_side_of_bits) (defBody s_side_of_bits) (defScope s_side_of_bits) .none kV15 dc15 pm15 an15 cd15 ct15), sl15⟩) (c15 : PySem.W.codeIn K cd15 "side_of_bits" = true) (k15 : PySem.W.keepIn K (.ref f15) = true)
    (a16 : PySem.W.nsIn K mainGlobals "joins_at" = some (some (.ref f16))) (l16 : K.lookup f16 = some ⟨oc16, od16, .func (PySem.W.fnOf "joins_at" "joins_at" (defArgs s_joins_at) (defBody s_joins_at) (defScope s_joins_at) .none kV16 dc16 pm16 an16 cd16 ct16), sl16⟩) (c16 : PySem.W.codeIn K cd16 "joins_at" = true) (k16 : PySem.W.keepIn K (.ref f16) = true)
    (a17 : PySem.W.nsIn K mainGlobals "group_from" = some (some (.ref f17))) (l17 : K.lookup f17 = some ⟨oc17, od17, .func (PySem.W.fnOf "group_from" "group_from" (defArgs s_group_from) (defBody s_group_from) (defScope s_group_from) .none kV17 dc17 pm17 an17 cd17 ct17), sl17⟩) (c17 : PySem.W.codeIn K cd17 "group_from" = true) (k17 : PySem.W.keepIn K (.ref f17) = true)
    (a18 : PySem.W.nsIn K mainGlobals "spread" = some (some (.ref f18))) (l18 : K.lookup f18 = some ⟨oc18, od18, .func (PySem.W.fnOf "spread" "spread" (defArgs s_spread) (defBody s_spread) (defScope s_spread) .none kV18 dc18 pm18 an18 cd18 ct18), sl18⟩) (c18 : PySem.W.codeIn K cd18 "spread" = true) (k18 : PySem.W.keepIn K (.ref f18) = true)
    (a19 : PySem.W.nsIn K mainGlobals "ring_closed" = some (some (.ref f19))) (l19 : K.lookup f19 = some ⟨oc19, od19, .func (PySem.W.fnOf "ring_closed" "ring_closed" (defArgs s_ring_closed) (defBody s_ring_closed) (defScope s_ring_closed) .none kV19 dc19 pm19 an19 cd19 ct19), sl19⟩) (c19 : PySem.W.codeIn K cd19 "ring_closed" = true) (k19 : PySem.W.keepIn K (.ref f19) = true)
    (a20 : PySem.W.nsIn K mainGlobals "odd_rings" = some (some (.ref f20))) (l20 : K.lookup f20 = some ⟨oc20, od20, .func (PySem.W.fnOf "odd_rings" "odd_rings" (defArgs s_odd_rings) (defBody s_odd_rings) (defScope s_odd_rings) .none kV20 dc20 pm20 an20 cd20 ct20), sl20⟩) (c20 : PySem.W.codeIn K cd20 "odd_rings" = true) (k20 : PySem.W.keepIn K (.ref f20) = true)
    (a21 : PySem.W.nsIn K mainGlobals "parted" = some (some (.ref f21))) (l21 : K.lookup f21 = some ⟨oc21, od21, .func (PySem.W.fnOf "parted" "parted" (defArgs s_parted) (defBody s_parted) (defScope s_parted) .none kV21 dc21 pm21 an21 cd21 ct21), sl21⟩) (c21 : PySem.W.codeIn K cd21 "parted" = true) (k21 : PySem.W.keepIn K (.ref f21) = true)
    (a22 : PySem.W.nsIn K mainGlobals "is_wish" = some (some (.ref f22))) (l22 : K.lookup f22 = some ⟨oc22, od22, .func (PySem.W.fnOf "is_wish" "is_wish" (defArgs s_is_wish) (defBody s_is_wish) (defScope s_is_wish) .none kV22 dc22 pm22 an22 cd22 ct22), sl22⟩) (c22 : PySem.W.codeIn K cd22 "is_wish" = true) (k22 : PySem.W.keepIn K (.ref f22) = true)
    (a23 : PySem.W.nsIn K mainGlobals "made_wishes" = some (some (.ref f23))) (l23 : K.lookup f23 = some ⟨oc23, od23, .func (PySem.W.fnOf "made_wishes" "made_wishes" (defArgs s_made_wishes) (defBody s_made_wishes) (defScope s_made_wishes) .none kV23 dc23 pm23 an23 cd23 ct23), sl23⟩) (c23 : PySem.W.codeIn K cd23 "made_wishes" = true) (k23 : PySem.W.keepIn K (.ref f23) = true)
    (a24 : PySem.W.nsIn K mainGlobals "grouped" = some (some (.ref f24))) (l24 : K.lookup f24 = some ⟨oc24, od24, .func (PySem.W.fnOf "grouped" "grouped" (defArgs s_grouped) (defBody s_grouped) (defScope s_grouped) .none kV24 dc24 pm24 an24 cd24 ct24), sl24⟩) (c24 : PySem.W.codeIn K cd24 "grouped" = true) (k24 : PySem.W.keepIn K (.ref f24) = true)
    (a25 : PySem.W.nsIn K mainGlobals "unlike_weights" = some (some (.ref f25))) (l25 : K.lookup f25 = some ⟨oc25, od25, .func (PySem.W.fnOf "unlike_weights" "unlike_weights" (defArgs s_unlike_weights) (defBody s_unlike_weights) (defScope s_unlike_weights) .none kV25 dc25 pm25 an25 cd25 ct25), sl25⟩) (c25 : PySem.W.codeIn K cd25 "unlike_weights" = true) (k25 : PySem.W.keepIn K (.ref f25) = true)
    (a26 : PySem.W.nsIn K mainGlobals "terms_between" = some (some (.ref f26))) (l26 : K.lookup f26 = some ⟨oc26, od26, .func (PySem.W.fnOf "terms_between" "terms_between" (defArgs s_terms_between) (defBody s_terms_between) (defScope s_terms_between) .none kV26 dc26 pm26 an26 cd26 ct26), sl26⟩) (c26 : PySem.W.codeIn K cd26 "terms_between" = true) (k26 : PySem.W.keepIn K (.ref f26) = true)
    (a27 : PySem.W.nsIn K mainGlobals "glued" = some (some (.ref f27))) (l27 : K.lookup f27 = some ⟨oc27, od27, .func (PySem.W.fnOf "glued" "glued" (defArgs s_glued) (defBody s_glued) (defScope s_glued) .none kV27 dc27 pm27 an27 cd27 ct27), sl27⟩) (c27 : PySem.W.codeIn K cd27 "glued" = true) (k27 : PySem.W.keepIn K (.ref f27) = true)
    (a28 : PySem.W.nsIn K mainGlobals "led_back" = some (some (.ref f28))) (l28 : K.lookup f28 = some ⟨oc28, od28, .func (PySem.W.fnOf "led_back" "led_back" (defArgs s_led_back) (defBody s_led_back) (defScope s_led_back) .none kV28 dc28 pm28 an28 cd28 ct28), sl28⟩) (c28 : PySem.W.codeIn K cd28 "led_back" = true) (k28 : PySem.W.keepIn K (.ref f28) = true)
    (a29 : PySem.W.nsIn K mainGlobals "_law_cell_at" = some (some (.ref f29))) (l29 : K.lookup f29 = some ⟨oc29, od29, .func (PySem.W.fnOf "_law_cell_at" "_law_cell_at" (defArgs s__law_cell_at) (defBody s__law_cell_at) (defScope s__law_cell_at) .none kV29 dc29 pm29 an29 cd29 ct29), sl29⟩) (c29 : PySem.W.codeIn K cd29 "_law_cell_at" = true) (k29 : PySem.W.keepIn K (.ref f29) = true)
    (a30 : PySem.W.nsIn K mainGlobals "_law_stream" = some (some (.ref f30))) (l30 : K.lookup f30 = some ⟨oc30, od30, .func (PySem.W.fnOf "_law_stream" "_law_stream" (defArgs s__law_stream) (defBody s__law_stream) (defScope s__law_stream) .none kV30 dc30 pm30 an30 cd30 ct30), sl30⟩) (c30 : PySem.W.codeIn K cd30 "_law_stream" = true) (k30 : PySem.W.keepIn K (.ref f30) = true)
    (a31 : PySem.W.nsIn K mainGlobals "_law_take" = some (some (.ref f31))) (l31 : K.lookup f31 = some ⟨oc31, od31, .func (PySem.W.fnOf "_law_take" "_law_take" (defArgs s__law_take) (defBody s__law_take) (defScope s__law_take) .none kV31 dc31 pm31 an31 cd31 ct31), sl31⟩) (c31 : PySem.W.codeIn K cd31 "_law_take" = true) (k31 : PySem.W.keepIn K (.ref f31) = true)
    (a32 : PySem.W.nsIn K mainGlobals "_law_reduced" = some (some (.ref f32))) (l32 : K.lookup f32 = some ⟨oc32, od32, .func (PySem.W.fnOf "_law_reduced" "_law_reduced" (defArgs s__law_reduced) (defBody s__law_reduced) (defScope s__law_reduced) .none kV32 dc32 pm32 an32 cd32 ct32), sl32⟩) (c32 : PySem.W.codeIn K cd32 "_law_reduced" = true) (k32 : PySem.W.keepIn K (.ref f32) = true)
    (a33 : PySem.W.nsIn K mainGlobals "_law_weight" = some (some (.ref f33))) (l33 : K.lookup f33 = some ⟨oc33, od33, .func (PySem.W.fnOf "_law_weight" "_law_weight" (defArgs s__law_weight) (defBody s__law_weight) (defScope s__law_weight) .none kV33 dc33 pm33 an33 cd33 ct33), sl33⟩) (c33 : PySem.W.codeIn K cd33 "_law_weight" = true) (k33 : PySem.W.keepIn K (.ref f33) = true)
    (a34 : PySem.W.nsIn K mainGlobals "_law_web" = some (some (.ref f34))) (l34 : K.lookup f34 = some ⟨oc34, od34, .func (PySem.W.fnOf "_law_web" "_law_web" (defArgs s__law_web) (defBody s__law_web) (defScope s__law_web) .none kV34 dc34 pm34 an34 cd34 ct34), sl34⟩) (c34 : PySem.W.codeIn K cd34 "_law_web" = true) (k34 : PySem.W.keepIn K (.ref f34) = true)
    (a35 : PySem.W.nsIn K mainGlobals "_law_groups" = some (some (.ref f35))) (l35 : K.lookup f35 = some ⟨oc35, od35, .func (PySem.W.fnOf "_law_groups" "_law_groups" (defArgs s__law_groups) (defBody s__law_groups) (defScope s__law_groups) .none kV35 dc35 pm35 an35 cd35 ct35), sl35⟩) (c35 : PySem.W.codeIn K cd35 "_law_groups" = true) (k35 : PySem.W.keepIn K (.ref f35) = true)
    (a36 : PySem.W.nsIn K mainGlobals "_law_wishes" = some (some (.ref f36))) (l36 : K.lookup f36 = some ⟨oc36, od36, .func (PySem.W.fnOf "_law_wishes" "_law_wishes" (defArgs s__law_wishes) (defBody s__law_wishes) (defScope s__law_wishes) .none kV36 dc36 pm36 an36 cd36 ct36), sl36⟩) (c36 : PySem.W.codeIn K cd36 "_law_wishes" = true) (k36 : PySem.W.keepIn K (.ref f36) = true)
    (a37 : PySem.W.nsIn K mainGlobals "_law_plus" = some (some (.ref f37))) (l37 : K.lookup f37 = some ⟨oc37, od37, .func (PySem.W.fnOf "_law_plus" "_law_plus" (defArgs s__law_plus) (defBody s__law_plus) (defScope s__law_plus) .none kV37 dc37 pm37 an37 cd37 ct37), sl37⟩) (c37 : PySem.W.codeIn K cd37 "_law_plus" = true) (k37 : PySem.W.keepIn K (.ref f37) = true)
    (a38 : PySem.W.nsIn K mainGlobals "_law_weight_of" = some (some (.ref f38))) (l38 : K.lookup f38 = some ⟨oc38, od38, .func (PySem.W.fnOf "_law_weight_of" "_law_weight_of" (defArgs s__law_weight_of) (defBody s__law_weight_of) (defScope s__law_weight_of) .none kV38 dc38 pm38 an38 cd38 ct38), sl38⟩) (c38 : PySem.W.codeIn K cd38 "_law_weight_of" = true) (k38 : PySem.W.keepIn K (.ref f38) = true)
    (a39 : PySem.W.nsIn K mainGlobals "_law_due" = some (some (.ref f39))) (l39 : K.lookup f39 = some ⟨oc39, od39, .func (PySem.W.fnOf "_law_due" "_law_due" (defArgs s__law_due) (defBody s__law_due) (defScope s__law_due) .none kV39 dc39 pm39 an39 cd39 ct39), sl39⟩) (c39 : PySem.W.codeIn K cd39 "_law_due" = true) (k39 : PySem.W.keepIn K (.ref f39) = true)
    (a40 : PySem.W.nsIn K mainGlobals "_law_may_be" = some (some (.ref f40))) (l40 : K.lookup f40 = some ⟨oc40, od40, .func (PySem.W.fnOf "_law_may_be" "_law_may_be" (defArgs s__law_may_be) (defBody s__law_may_be) (defScope s__law_may_be) .none kV40 dc40 pm40 an40 cd40 ct40), sl40⟩) (c40 : PySem.W.codeIn K cd40 "_law_may_be" = true) (k40 : PySem.W.keepIn K (.ref f40) = true)
    (a41 : PySem.W.nsIn K mainGlobals "_law_caught" = some (some (.ref f41))) (l41 : K.lookup f41 = some ⟨oc41, od41, .func (PySem.W.fnOf "_law_caught" "_law_caught" (defArgs s__law_caught) (defBody s__law_caught) (defScope s__law_caught) .none kV41 dc41 pm41 an41 cd41 ct41), sl41⟩) (c41 : PySem.W.codeIn K cd41 "_law_caught" = true) (k41 : PySem.W.keepIn K (.ref f41) = true)
    (a42 : PySem.W.nsIn K mainGlobals "_law_refused" = some (some (.ref f42))) (l42 : K.lookup f42 = some ⟨oc42, od42, .func (PySem.W.fnOf "_law_refused" "_law_refused" (defArgs s__law_refused) (defBody s__law_refused) (defScope s__law_refused) .none kV42 dc42 pm42 an42 cd42 ct42), sl42⟩) (c42 : PySem.W.codeIn K cd42 "_law_refused" = true) (k42 : PySem.W.keepIn K (.ref f42) = true)
    (a43 : PySem.W.nsIn K mainGlobals "_law_led" = some (some (.ref f43))) (l43 : K.lookup f43 = some ⟨oc43, od43, .func (PySem.W.fnOf "_law_led" "_law_led" (defArgs s__law_led) (defBody s__law_led) (defScope s__law_led) .none kV43 dc43 pm43 an43 cd43 ct43), sl43⟩) (c43 : PySem.W.codeIn K cd43 "_law_led" = true) (k43 : PySem.W.keepIn K (.ref f43) = true)
    (a44 : PySem.W.nsIn K mainGlobals "_law_right" = some (some (.ref f44))) (l44 : K.lookup f44 = some ⟨oc44, od44, .func (PySem.W.fnOf "_law_right" "_law_right" (defArgs s__law_right) (defBody s__law_right) (defScope s__law_right) .none kV44 dc44 pm44 an44 cd44 ct44), sl44⟩) (c44 : PySem.W.codeIn K cd44 "_law_right" = true) (k44 : PySem.W.keepIn K (.ref f44) = true)
    (a45 : PySem.W.nsIn K mainGlobals "_law_wrong_wishes" = some (some (.ref f45))) (l45 : K.lookup f45 = some ⟨oc45, od45, .func (PySem.W.fnOf "_law_wrong_wishes" "_law_wrong_wishes" (defArgs s__law_wrong_wishes) (defBody s__law_wrong_wishes) (defScope s__law_wrong_wishes) .none kV45 dc45 pm45 an45 cd45 ct45), sl45⟩) (c45 : PySem.W.codeIn K cd45 "_law_wrong_wishes" = true) (k45 : PySem.W.keepIn K (.ref f45) = true)
    (a46 : PySem.W.nsIn K mainGlobals "law" = some (some (.ref f46))) (l46 : K.lookup f46 = some ⟨oc46, od46, .func (PySem.W.fnOf "law" "law" (defArgs s_law) (defBody s_law) (defScope s_law) .none kV46 dc46 pm46 an46 cd46 ct46), sl46⟩) (c46 : PySem.W.codeIn K cd46 "law" = true) (k46 : PySem.W.keepIn K (.ref f46) = true)
    (g_CutError : PySem.W.nsIn K mainGlobals "CutError" = some (some (.ref C_CutError)))
    (g_NoWeb : PySem.W.nsIn K mainGlobals "NoWeb" = some (some (.ref C_NoWeb)))
    (g_NoSide : PySem.W.nsIn K mainGlobals "NoSide" = some (some (.ref C_NoSide)))
    (g_NoWishes : PySem.W.nsIn K mainGlobals "NoWishes" = some (some (.ref C_NoWishes)))
    (g_TooGreat : PySem.W.nsIn K mainGlobals "TooGreat" = some (some (.ref C_TooGreat)))
    (iq_CutError : PySem.W.isClsIn K C_CutError = true)
    (yq_CutError : PySem.W.typeIn K (.ref C_CutError) = some (.type "type"))
    (iq_NoWeb : PySem.W.isClsIn K C_NoWeb = true)
    (yq_NoWeb : PySem.W.typeIn K (.ref C_NoWeb) = some (.type "type"))
    (iq_NoSide : PySem.W.isClsIn K C_NoSide = true)
    (yq_NoSide : PySem.W.typeIn K (.ref C_NoSide) = some (.type "type"))
    (iq_NoWishes : PySem.W.isClsIn K C_NoWishes = true)
    (yq_NoWishes : PySem.W.typeIn K (.ref C_NoWishes) = some (.type "type"))
    (iq_TooGreat : PySem.W.isClsIn K C_TooGreat = true)
    (yq_TooGreat : PySem.W.typeIn K (.ref C_TooGreat) = some (.type "type"))
    (bq_CutError : PySem.W.subIn K (.ref C_CutError) (.type "BaseException") = some true)
    (x_NoSide : PySem.W.excIn K C_NoSide [.type "ValueError", .type "Exception", .type "BaseException", .type "object"] "ValueError.__new__" = true)
    (k_NoSide : PySem.W.keepIn K (.ref C_NoSide) = true)
    (b_NoSide : PySem.W.subIn K (.ref C_NoSide) (.type "BaseException") = some true)
    (t_NoSide : PySem.W.typeIn K (.ref C_NoSide) = some (.type "type"))
    (s_NoSide : PySem.W.subIn K (.ref C_NoSide) (.ref C_NoSide) = some true)
    (e0_NoSide : PySem.W.findIn K (.ref C_NoSide) "__getattribute__" = some (some (.builtin "BaseException.__getattribute__")))
    (e1_NoSide : PySem.W.findIn K (.ref C_NoSide) "__getattr__" = some none)
    (e2_NoSide : PySem.W.subIn K (.ref C_NoSide) (.type "BaseException") = some true)
    (e3_NoSide : PySem.W.hasDictIn K C_NoSide = true)
    (e4_NoSide : PySem.W.findIn K (.ref C_NoSide) "__class__" = some (some (.builtin "object.__class__")))
    (e5_NoSide : PySem.W.specialIn K (.builtin "object.__class__") "__get__" = some (some (.builtin "getset_descriptor.__get__")))
    (e6_NoSide : PySem.W.takesIn K (.builtin "object.__class__") = some true)
    (e7_NoSide : PySem.W.mroIn K C_NoSide (.type "object") = some true)
    (n_NoSide_NoWeb : PySem.W.subIn K (.ref C_NoSide) (.ref C_NoWeb) = some false)
    (n_NoSide_NoWishes : PySem.W.subIn K (.ref C_NoSide) (.ref C_NoWishes) = some false)
    (n_NoSide_TooGreat : PySem.W.subIn K (.ref C_NoSide) (.ref C_TooGreat) = some false)
    (i_NoSide_CutError : PySem.W.isClsIn K C_CutError = true)
    (y_NoSide_CutError : PySem.W.typeIn K (.ref C_CutError) = some (.type "type"))
    (u_NoSide_CutError : PySem.W.subIn K (.ref C_NoSide) (.ref C_CutError) = some true)
    (v_NoSide : PySem.W.subIn K (.ref C_NoSide) (.type "ValueError") = some true)
    (x_NoWeb : PySem.W.excIn K C_NoWeb [.type "ValueError", .type "Exception", .type "BaseException", .type "object"] "ValueError.__new__" = true)
    (k_NoWeb : PySem.W.keepIn K (.ref C_NoWeb) = true)
    (b_NoWeb : PySem.W.subIn K (.ref C_NoWeb) (.type "BaseException") = some true)
    (t_NoWeb : PySem.W.typeIn K (.ref C_NoWeb) = some (.type "type"))
    (s_NoWeb : PySem.W.subIn K (.ref C_NoWeb) (.ref C_NoWeb) = some true)
    (e0_NoWeb : PySem.W.findIn K (.ref C_NoWeb) "__getattribute__" = some (some (.builtin "BaseException.__getattribute__")))
    (e1_NoWeb : PySem.W.findIn K (.ref C_NoWeb) "__getattr__" = some none)
    (e2_NoWeb : PySem.W.subIn K (.ref C_NoWeb) (.type "BaseException") = some true)
    (e3_NoWeb : PySem.W.hasDictIn K C_NoWeb = true)
    (e4_NoWeb : PySem.W.findIn K (.ref C_NoWeb) "__class__" = some (some (.builtin "object.__class__")))
    (e5_NoWeb : PySem.W.specialIn K (.builtin "object.__class__") "__get__" = some (some (.builtin "getset_descriptor.__get__")))
    (e6_NoWeb : PySem.W.takesIn K (.builtin "object.__class__") = some true)
    (e7_NoWeb : PySem.W.mroIn K C_NoWeb (.type "object") = some true)
    (n_NoWeb_NoSide : PySem.W.subIn K (.ref C_NoWeb) (.ref C_NoSide) = some false)
    (n_NoWeb_NoWishes : PySem.W.subIn K (.ref C_NoWeb) (.ref C_NoWishes) = some false)
    (n_NoWeb_TooGreat : PySem.W.subIn K (.ref C_NoWeb) (.ref C_TooGreat) = some false)
    (i_NoWeb_CutError : PySem.W.isClsIn K C_CutError = true)
    (y_NoWeb_CutError : PySem.W.typeIn K (.ref C_CutError) = some (.type "type"))
    (u_NoWeb_CutError : PySem.W.subIn K (.ref C_NoWeb) (.ref C_CutError) = some true)
    (v_NoWeb : PySem.W.subIn K (.ref C_NoWeb) (.type "ValueError") = some true)
    (x_NoWishes : PySem.W.excIn K C_NoWishes [.type "ValueError", .type "Exception", .type "BaseException", .type "object"] "ValueError.__new__" = true)
    (k_NoWishes : PySem.W.keepIn K (.ref C_NoWishes) = true)
    (b_NoWishes : PySem.W.subIn K (.ref C_NoWishes) (.type "BaseException") = some true)
    (t_NoWishes : PySem.W.typeIn K (.ref C_NoWishes) = some (.type "type"))
    (s_NoWishes : PySem.W.subIn K (.ref C_NoWishes) (.ref C_NoWishes) = some true)
    (e0_NoWishes : PySem.W.findIn K (.ref C_NoWishes) "__getattribute__" = some (some (.builtin "BaseException.__getattribute__")))
    (e1_NoWishes : PySem.W.findIn K (.ref C_NoWishes) "__getattr__" = some none)
    (e2_NoWishes : PySem.W.subIn K (.ref C_NoWishes) (.type "BaseException") = some true)
    (e3_NoWishes : PySem.W.hasDictIn K C_NoWishes = true)
    (e4_NoWishes : PySem.W.findIn K (.ref C_NoWishes) "__class__" = some (some (.builtin "object.__class__")))
    (e5_NoWishes : PySem.W.specialIn K (.builtin "object.__class__") "__get__" = some (some (.builtin "getset_descriptor.__get__")))
    (e6_NoWishes : PySem.W.takesIn K (.builtin "object.__class__") = some true)
    (e7_NoWishes : PySem.W.mroIn K C_NoWishes (.type "object") = some true)
    (n_NoWishes_NoWeb : PySem.W.subIn K (.ref C_NoWishes) (.ref C_NoWeb) = some false)
    (n_NoWishes_NoSide : PySem.W.subIn K (.ref C_NoWishes) (.ref C_NoSide) = some false)
    (n_NoWishes_TooGreat : PySem.W.subIn K (.ref C_NoWishes) (.ref C_TooGreat) = some false)
    (i_NoWishes_CutError : PySem.W.isClsIn K C_CutError = true)
    (y_NoWishes_CutError : PySem.W.typeIn K (.ref C_CutError) = some (.type "type"))
    (u_NoWishes_CutError : PySem.W.subIn K (.ref C_NoWishes) (.ref C_CutError) = some true)
    (v_NoWishes : PySem.W.subIn K (.ref C_NoWishes) (.type "ValueError") = some true)
    (x_TooGreat : PySem.W.excIn K C_TooGreat [.type "ValueError", .type "Exception", .type "BaseException", .type "object"] "ValueError.__new__" = true)
    (k_TooGreat : PySem.W.keepIn K (.ref C_TooGreat) = true)
    (b_TooGreat : PySem.W.subIn K (.ref C_TooGreat) (.type "BaseException") = some true)
    (t_TooGreat : PySem.W.typeIn K (.ref C_TooGreat) = some (.type "type"))
    (s_TooGreat : PySem.W.subIn K (.ref C_TooGreat) (.ref C_TooGreat) = some true)
    (e0_TooGreat : PySem.W.findIn K (.ref C_TooGreat) "__getattribute__" = some (some (.builtin "BaseException.__getattribute__")))
    (e1_TooGreat : PySem.W.findIn K (.ref C_TooGreat) "__getattr__" = some none)
    (e2_TooGreat : PySem.W.subIn K (.ref C_TooGreat) (.type "BaseException") = some true)
    (e3_TooGreat : PySem.W.hasDictIn K C_TooGreat = true)
    (e4_TooGreat : PySem.W.findIn K (.ref C_TooGreat) "__class__" = some (some (.builtin "object.__class__")))
    (e5_TooGreat : PySem.W.specialIn K (.builtin "object.__class__") "__get__" = some (some (.builtin "getset_descriptor.__get__")))
    (e6_TooGreat : PySem.W.takesIn K (.builtin "object.__class__") = some true)
    (e7_TooGreat : PySem.W.mroIn K C_TooGreat (.type "object") = some true)
    (n_TooGreat_NoWeb : PySem.W.subIn K (.ref C_TooGreat) (.ref C_NoWeb) = some false)
    (n_TooGreat_NoSide : PySem.W.subIn K (.ref C_TooGreat) (.ref C_NoSide) = some false)
    (n_TooGreat_NoWishes : PySem.W.subIn K (.ref C_TooGreat) (.ref C_NoWishes) = some false)
    (i_TooGreat_CutError : PySem.W.isClsIn K C_CutError = true)
    (y_TooGreat_CutError : PySem.W.typeIn K (.ref C_CutError) = some (.type "type"))
    (u_TooGreat_CutError : PySem.W.subIn K (.ref C_TooGreat) (.ref C_CutError) = some true)
    (v_TooGreat : PySem.W.subIn K (.ref C_TooGreat) (.type "ValueError") = some true)
    {n_MOST_POINTS : Tok} (m_MOST_POINTS : PySem.W.nsIn K mainGlobals "MOST_POINTS" = some (some (.int 60 n_MOST_POINTS)))
    {n_MOST_TIES : Tok} (m_MOST_TIES : PySem.W.nsIn K mainGlobals "MOST_TIES" = some (some (.int 170 n_MOST_TIES)))
    {n_MOST_TOP : Tok} (m_MOST_TOP : PySem.W.nsIn K mainGlobals "MOST_TOP" = some (some (.int 1000000000 n_MOST_TOP)))
    {n_MOST_BOTTOM : Tok} (m_MOST_BOTTOM : PySem.W.nsIn K mainGlobals "MOST_BOTTOM" = some (some (.int 1000 n_MOST_BOTTOM)))
    {n_MOST_WISHES : Tok} (m_MOST_WISHES : PySem.W.nsIn K mainGlobals "MOST_WISHES" = some (some (.int 120 n_MOST_WISHES)))
    (z0 : PySem.W.nsIn K mainGlobals "bool" = some none) (z1 : PySem.W.nsIn K mainGlobals "isinstance" = some none) (z2 : PySem.W.nsIn K mainGlobals "int" = some none) (z3 : PySem.W.nsIn K mainGlobals "tuple" = some none) (z4 : PySem.W.nsIn K mainGlobals "list" = some none) (z5 : PySem.W.nsIn K mainGlobals "len" = some none) (z6 : PySem.W.nsIn K mainGlobals "abs" = some none) (z7 : PySem.W.nsIn K mainGlobals "zip" = some none) (z8 : PySem.W.nsIn K mainGlobals "max" = some none) (z9 : PySem.W.nsIn K mainGlobals "min" = some none) (z10 : PySem.W.nsIn K mainGlobals "sorted" = some none) (z11 : PySem.W.nsIn K mainGlobals "all" = some none) (z12 : PySem.W.nsIn K mainGlobals "range" = some none) (z13 : PySem.W.nsIn K mainGlobals "enumerate" = some none) (z14 : PySem.W.nsIn K mainGlobals "ValueError" = some none) :
    ∃ fd : FuncData, (∀ (s : Shared) (v : Value), BindsTo s fd ⟨[v], []⟩ [("_law_script", v)]) ∧ ∀ base : Heap, K.In base → base.Ns mainGlobals mg → FnOk l.prog w K mg base CX0 10 fa fd ["_law_script"] (SpD K Φ_law) := by
  have B : ∀ x, x ∈ blt → mg x = none := by
    intro x hx
    simp only [blt, List.mem_cons, List.not_mem_nil, or_false] at hx
    rcases hx with rfl | rfl | rfl | rfl | rfl | rfl | rfl | rfl | rfl | rfl | rfl | rfl | rfl | rfl | rfl
    · exact PySem.W.mg_none_of X G z0
    · exact PySem.W.mg_none_of X G z1
    · exact PySem.W.mg_none_of X G z2
    · exact PySem.W.mg_none_of X G z3
    · exact PySem.W.mg_none_of X G z4
    · exact PySem.W.mg_none_of X G z5
    · exact PySem.W.mg_none_of X G z6
    · exact PySem.W.mg_none_of X G z7
    · exact PySem.W.mg_none_of X G z8
    · exact PySem.W.mg_none_of X G z9
    · exact PySem.W.mg_none_of X G z10
    · exact PySem.W.mg_none_of X G z11
    · exact PySem.W.mg_none_of X G z12
    · exact PySem.W.mg_none_of X G z13
    · exact PySem.W.mg_none_of X G z14
  have cs : Csts mg := ⟨⟨_, PySem.W.mg_of X G m_MOST_POINTS⟩, ⟨_, PySem.W.mg_of X G m_MOST_TIES⟩, ⟨_, PySem.W.mg_of X G m_MOST_TOP⟩, ⟨_, PySem.W.mg_of X G m_MOST_BOTTOM⟩, ⟨_, PySem.W.mg_of X G m_MOST_WISHES⟩⟩
  have cl : Cls K mg C_CutError C_NoWeb C_NoSide C_NoWishes C_TooGreat := ⟨PySem.W.mg_of X G g_CutError, PySem.W.mg_of X G g_NoWeb, PySem.W.mg_of X G g_NoSide, PySem.W.mg_of X G g_NoWishes, PySem.W.mg_of X G g_TooGreat, ⟨PySem.W.mg_of X G g_NoSide, x_NoSide, k_NoSide, b_NoSide, t_NoSide, s_NoSide, ⟨e0_NoSide, e1_NoSide, e2_NoSide, e3_NoSide, e4_NoSide, e5_NoSide, e6_NoSide, e7_NoSide⟩⟩, kit_up i_NoSide_CutError y_NoSide_CutError u_NoSide_CutError, kit_no iq_NoWeb yq_NoWeb n_NoSide_NoWeb s_NoSide, kit_no iq_NoWishes yq_NoWishes n_NoSide_NoWishes s_NoSide, kit_no iq_TooGreat yq_TooGreat n_NoSide_TooGreat s_NoSide, exm_up bq_CutError iq_CutError yq_CutError u_NoSide_CutError, kit_upT (by decide +kernel) v_NoSide, ⟨PySem.W.mg_of X G g_NoWeb, x_NoWeb, k_NoWeb, b_NoWeb, t_NoWeb, s_NoWeb, ⟨e0_NoWeb, e1_NoWeb, e2_NoWeb, e3_NoWeb, e4_NoWeb, e5_NoWeb, e6_NoWeb, e7_NoWeb⟩⟩, kit_up i_NoWeb_CutError y_NoWeb_CutError u_NoWeb_CutError, kit_no iq_NoSide yq_NoSide n_NoWeb_NoSide s_NoWeb, kit_no iq_NoWishes yq_NoWishes n_NoWeb_NoWishes s_NoWeb, kit_no iq_TooGreat yq_TooGreat n_NoWeb_TooGreat s_NoWeb, exm_up bq_CutError iq_CutError yq_CutError u_NoWeb_CutError, kit_upT (by decide +kernel) v_NoWeb, ⟨PySem.W.mg_of X G g_NoWishes, x_NoWishes, k_NoWishes, b_NoWishes, t_NoWishes, s_NoWishes, ⟨e0_NoWishes, e1_NoWishes, e2_NoWishes, e3_NoWishes, e4_NoWishes, e5_NoWishes, e6_NoWishes, e7_NoWishes⟩⟩, kit_up i_NoWishes_CutError y_NoWishes_CutError u_NoWishes_CutError, kit_no iq_NoWeb yq_NoWeb n_NoWishes_NoWeb s_NoWishes, kit_no iq_NoSide yq_NoSide n_NoWishes_NoSide s_NoWishes, kit_no iq_TooGreat yq_TooGreat n_NoWishes_TooGreat s_NoWishes, exm_up bq_CutError iq_CutError yq_CutError u_NoWishes_CutError, kit_upT (by decide +kernel) v_NoWishes, ⟨PySem.W.mg_of X G g_TooGreat, x_TooGreat, k_TooGreat, b_TooGreat, t_TooGreat, s_TooGreat, ⟨e0_TooGreat, e1_TooGreat, e2_TooGreat, e3_TooGreat, e4_TooGreat, e5_TooGreat, e6_TooGreat, e7_TooGreat⟩⟩, kit_up i_TooGreat_CutError y_TooGreat_CutError u_TooGreat_CutError, kit_no iq_NoWeb yq_NoWeb n_TooGreat_NoWeb s_TooGreat, kit_no iq_NoSide yq_NoSide n_TooGreat_NoSide s_TooGreat, kit_no iq_NoWishes yq_NoWishes n_TooGreat_NoWishes s_TooGreat, exm_up bq_CutError iq_CutError yq_CutError u_TooGreat_CutError, kit_upT (by decide +kernel) v_TooGreat⟩
  have e := hfa.symm.trans (PySem.W.mg_of X G a46)
  cases e
  have F1 := fun_mk (st := s_is_whole) l1 c1 k1
  have F2 := fun_mk (st := s_is_row) l2 c2 k2
  have F3 := fun_mk (st := s_is_triple) l3 c3 k3
  have F4 := fun_mk (st := s_is_number_of) l4 c4 k4
  have F5 := fun_mk (st := s_are_unlike_points) l5 c5 k5
  have F6 := fun_mk (st := s_common_divisor) l6 c6 k6
  have F7 := fun_mk (st := s_is_fraction) l7 c7 k7
  have F8 := fun_mk (st := s_as_fraction) l8 c8 k8
  have F9 := fun_mk (st := s_plus) l9 c9 k9
  have F10 := fun_mk (st := s_added) l10 c10 k10
  have F11 := fun_mk (st := s_is_weight) l11 c11 k11
  have F12 := fun_mk (st := s_told_tie) l12 c12 k12
  have F13 := fun_mk (st := s_made_web) l13 c13 k13
  have F14 := fun_mk (st := s_made_side) l14 c14 k14
  have F15 := fun_mk (st := s_side_of_bits) l15 c15 k15
  have F16 := fun_mk (st := s_joins_at) l16 c16 k16
  have F17 := fun_mk (st := s_group_from) l17 c17 k17
  have F18 := fun_mk (st := s_spread) l18 c18 k18
  have F19 := fun_mk (st := s_ring_closed) l19 c19 k19
  have F20 := fun_mk (st := s_odd_rings) l20 c20 k20
  have F21 := fun_mk (st := s_parted) l21 c21 k21
  have F22 := fun_mk (st := s_is_wish) l22 c22 k22
  have F23 := fun_mk (st := s_made_wishes) l23 c23 k23
  have F24 := fun_mk (st := s_grouped) l24 c24 k24
  have F25 := fun_mk (st := s_unlike_weights) l25 c25 k25
  have F26 := fun_mk (st := s_terms_between) l26 c26 k26
  have F27 := fun_mk (st := s_glued) l27 c27 k27
  have F28 := fun_mk (st := s_led_back) l28 c28 k28
  have F29 := fun_mk (st := s__law_cell_at) l29 c29 k29
  have F30 := fun_mk (st := s__law_stream) l30 c30 k30
  have F31 := fun_mk (st := s__law_take) l31 c31 k31
  have F32 := fun_mk (st := s__law_reduced) l32 c32 k32
  have F33 := fun_mk (st := s__law_weight) l33 c33 k33
  have F34 := fun_mk (st := s__law_web) l34 c34 k34
  have F35 := fun_mk (st := s__law_groups) l35 c35 k35
  have F36 := fun_mk (st := s__law_wishes) l36 c36 k36
  have F37 := fun_mk (st := s__law_plus) l37 c37 k37
  have F38 := fun_mk (st := s__law_weight_of) l38 c38 k38
  have F39 := fun_mk (st := s__law_due) l39 c39 k39
  have F40 := fun_mk (st := s__law_may_be) l40 c40 k40
  have F41 := fun_mk (st := s__law_caught) l41 c41 k41
  have F42 := fun_mk (st := s__law_refused) l42 c42 k42
  have F43 := fun_mk (st := s__law_led) l43 c43 k43
  have F44 := fun_mk (st := s__law_right) l44 c44 k44
  have F45 := fun_mk (st := s__law_wrong_wishes) l45 c45 k45
  have F46 := fun_mk (st := s_law) l46 c46 k46
  have g_is_whole : ∀ base : Heap, Kn l.prog w K mg base "is_whole" 1 ["thing"] Φ_is_whole := fun base => ok_is_whole F1 (PySem.W.mg_of X G a1) B cs
  have g_is_row : ∀ base : Heap, Kn l.prog w K mg base "is_row" 1 ["thing"] Φ_is_row := fun base => ok_is_row F2 (PySem.W.mg_of X G a2) B cs
  have g_common_divisor : ∀ base : Heap, Kn l.prog w K mg base "common_divisor" 1 ["one", "other"] Φ_common_divisor := fun base => ok_common_divisor F6 (PySem.W.mg_of X G a6) B cs
  have g_joins_at : ∀ base : Heap, Kn l.prog w K mg base "joins_at" 1 ["many", "joins"] Φ_joins_at := fun base => ok_joins_at F16 (PySem.W.mg_of X G a16) B cs
  have g_group_from : ∀ base : Heap, Kn l.prog w K mg base "group_from" 1 ["near", "first"] Φ_group_from := fun base => ok_group_from F17 (PySem.W.mg_of X G a17) B cs
  have g_ring_closed : ∀ base : Heap, Kn l.prog w K mg base "ring_closed" 1 ["way", "other_way", "number"] Φ_ring_closed := fun base => ok_ring_closed F19 (PySem.W.mg_of X G a19) B cs
  have g_unlike_weights : ∀ base : Heap, Kn l.prog w K mg base "unlike_weights" 1 ["web", "marks"] Φ_unlike_weights := fun base => ok_unlike_weights F25 (PySem.W.mg_of X G a25) B cs
  have g_terms_between : ∀ base : Heap, Kn l.prog w K mg base "terms_between" 1 ["web", "groups", "marks"] Φ_terms_between := fun base => ok_terms_between F26 (PySem.W.mg_of X G a26) B cs
  have g__law_cell_at : ∀ base : Heap, Kn l.prog w K mg base "_law_cell_at" 1 ["_law_script", "_law_k"] Φ__law_cell_at := fun base => ok__law_cell_at F29 (PySem.W.mg_of X G a29) B cs
  have g__law_stream : ∀ base : Heap, Kn l.prog w K mg base "_law_stream" 1 ["_law_cell", "_law_many"] Φ__law_stream := fun base => ok__law_stream F30 (PySem.W.mg_of X G a30) B cs
  have g__law_take : ∀ base : Heap, Kn l.prog w K mg base "_law_take" 1 ["_law_xs"] Φ__law_take := fun base => ok__law_take F31 (PySem.W.mg_of X G a31) B cs
  have g__law_reduced : ∀ base : Heap, Kn l.prog w K mg base "_law_reduced" 1 ["_law_top", "_law_bottom"] Φ__law_reduced := fun base => ok__law_reduced F32 (PySem.W.mg_of X G a32) B cs
  have g__law_groups : ∀ base : Heap, Kn l.prog w K mg base "_law_groups" 1 ["_law_many", "_law_wishes_here"] Φ__law_groups := fun base => ok__law_groups F35 (PySem.W.mg_of X G a35) B cs
  have g__law_may_be : ∀ base : Heap, Kn l.prog w K mg base "_law_may_be" 1 ["_law_web_here"] Φ__law_may_be := fun base => ok__law_may_be F40 (PySem.W.mg_of X G a40) B cs
  have g__law_wrong_wishes : ∀ base : Heap, Kn l.prog w K mg base "_law_wrong_wishes" 1 ["_law_many"] Φ__law_wrong_wishes := fun base => ok__law_wrong_wishes F45 (PySem.W.mg_of X G a45) B cs
  have g_is_triple : ∀ base : Heap, Kn l.prog w K mg base "is_triple" 2 ["thing"] Φ_is_triple := fun base => ok_is_triple F3 (PySem.W.mg_of X G a3) B cs (g_is_row base)
  have g_is_number_of : ∀ base : Heap, Kn l.prog w K mg base "is_number_of" 2 ["many", "thing"] Φ_is_number_of := fun base => ok_is_number_of F4 (PySem.W.mg_of X G a4) B cs (g_is_whole base)
  have g_is_fraction : ∀ base : Heap, Kn l.prog w K mg base "is_fraction" 2 ["thing"] Φ_is_fraction := fun base => ok_is_fraction F7 (PySem.W.mg_of X G a7) B cs (g_is_whole base) (g_common_divisor base)
  have g_as_fraction : ∀ base : Heap, Kn l.prog w K mg base "as_fraction" 2 ["top", "bottom"] Φ_as_fraction := fun base => ok_as_fraction F8 (PySem.W.mg_of X G a8) B cs (g_common_divisor base)
  have g_spread : ∀ base : Heap, Kn l.prog w K mg base "spread" 2 ["many", "joins"] Φ_spread := fun base => ok_spread F18 (PySem.W.mg_of X G a18) B cs (g_joins_at base) (g_group_from base)
  have g_odd_rings : ∀ base : Heap, Kn l.prog w K mg base "odd_rings" 2 ["joins", "marks", "ways"] Φ_odd_rings := fun base => ok_odd_rings F20 (PySem.W.mg_of X G a20) B cs (g_ring_closed base)
  have g__law_weight : ∀ base : Heap, Kn l.prog w K mg base "_law_weight" 2 ["_law_number"] Φ__law_weight := fun base => ok__law_weight F33 (PySem.W.mg_of X G a33) B cs (g__law_reduced base)
  have g__law_wishes : ∀ base : Heap, Kn l.prog w K mg base "_law_wishes" 2 ["_law_many", "_law_xs"] Φ__law_wishes := fun base => ok__law_wishes F36 (PySem.W.mg_of X G a36) B cs (g__law_take base)
  have g__law_plus : ∀ base : Heap, Kn l.prog w K mg base "_law_plus" 2 ["_law_one", "_law_other"] Φ__law_plus := fun base => ok__law_plus F37 (PySem.W.mg_of X G a37) B cs (g__law_reduced base)
  have g_are_unlike_points : ∀ base : Heap, Kn l.prog w K mg base "are_unlike_points" 3 ["many", "one", "other"] Φ_are_unlike_points := fun base => ok_are_unlike_points F5 (PySem.W.mg_of X G a5) B cs (g_is_number_of base)
  have g_plus : ∀ base : Heap, Kn l.prog w K mg base "plus" 3 ["one", "other"] Φ_plus := fun base => ok_plus F9 (PySem.W.mg_of X G a9) B cs (g_as_fraction base)
  have g_is_weight : ∀ base : Heap, Kn l.prog w K mg base "is_weight" 3 ["thing"] Φ_is_weight := fun base => ok_is_weight F11 (PySem.W.mg_of X G a11) B cs (g_is_fraction base)
  have g_made_side : ∀ base : Heap, KnX l.prog w K mg base "made_side" 3 ["web", "bits"] C_NoSide Φ_made_side := fun base => ok_made_side F14 (PySem.W.mg_of X G a14) B cs cl (g_is_row base) (g_is_number_of base)
  have g_parted : ∀ base : Heap, Kn l.prog w K mg base "parted" 3 ["many", "joins"] Φ_parted := fun base => ok_parted F21 (PySem.W.mg_of X G a21) B cs (g_spread base) (g_odd_rings base)
  have g__law_web : ∀ base : Heap, Kn l.prog w K mg base "_law_web" 3 ["_law_xs", "_law_most"] Φ__law_web := fun base => ok__law_web F34 (PySem.W.mg_of X G a34) B cs (g__law_take base) (g__law_weight base)
  have g__law_weight_of : ∀ base : Heap, Kn l.prog w K mg base "_law_weight_of" 3 ["_law_web_here", "_law_bits"] Φ__law_weight_of := fun base => ok__law_weight_of F38 (PySem.W.mg_of X G a38) B cs (g__law_plus base)
  have g__law_due : ∀ base : Heap, Kn l.prog w K mg base "_law_due" 3 ["_law_web_here", "_law_groups_here", "_law_marks"] Φ__law_due := fun base => ok__law_due F39 (PySem.W.mg_of X G a39) B cs (g__law_plus base)
  have g_added : ∀ base : Heap, Kn l.prog w K mg base "added" 4 ["terms"] Φ_added := fun base => ok_added F10 (PySem.W.mg_of X G a10) B cs (g_plus base)
  have g_told_tie : ∀ base : Heap, Kn l.prog w K mg base "told_tie" 4 ["many", "thing"] Φ_told_tie := fun base => ok_told_tie F12 (PySem.W.mg_of X G a12) B cs (g_is_triple base) (g_is_weight base) (g_are_unlike_points base)
  have g_side_of_bits : ∀ base : Heap, Kn l.prog w K mg base "side_of_bits" 4 ["web", "groups", "marks", "bits"] Φ_side_of_bits := fun base => ok_side_of_bits F15 (PySem.W.mg_of X G a15) B cs cl (g_made_side base)
  have g_is_wish : ∀ base : Heap, Kn l.prog w K mg base "is_wish" 4 ["web", "thing"] Φ_is_wish := fun base => ok_is_wish F22 (PySem.W.mg_of X G a22) B cs (g_is_triple base) (g_is_number_of base) (g_are_unlike_points base)
  have g_made_web : ∀ base : Heap, KnX l.prog w K mg base "made_web" 5 ["many", "ties"] C_NoWeb Φ_made_web := fun base => ok_made_web F13 (PySem.W.mg_of X G a13) B cs cl (g_is_whole base) (g_is_row base) (g_told_tie base)
  have g_made_wishes : ∀ base : Heap, KnX l.prog w K mg base "made_wishes" 5 ["web", "thing"] C_NoWishes Φ_made_wishes := fun base => ok_made_wishes F23 (PySem.W.mg_of X G a23) B cs cl (g_is_row base) (g_is_wish base)
  have g_grouped : ∀ base : Heap, KnY l.prog w K mg base "grouped" 6 ["web", "wishes"] (Φ_grouped C_CutError C_NoWeb C_NoSide C_NoWishes C_TooGreat) := fun base => ok_grouped F24 (PySem.W.mg_of X G a24) B cs cl (g_parted base) (g_made_wishes base)
  have g_glued : ∀ base : Heap, KnY l.prog w K mg base "glued" 7 ["web", "wishes"] (Φ_glued C_CutError C_NoWeb C_NoSide C_NoWishes C_TooGreat) := fun base => ok_glued F27 (PySem.W.mg_of X G a27) B cs cl (g_grouped base) (g_terms_between base) (g_added base) (g_is_weight base) (g_unlike_weights base) (g_made_web base)
  have g_led_back : ∀ base : Heap, KnY l.prog w K mg base "led_back" 7 ["web", "wishes", "side"] (Φ_led_back C_CutError C_NoWeb C_NoSide C_NoWishes C_TooGreat) := fun base => ok_led_back F28 (PySem.W.mg_of X G a28) B cs cl (g_grouped base) (g_side_of_bits base)
  have g__law_caught : ∀ base : Heap, Kn l.prog w K mg base "_law_caught" 8 ["_law_web_here", "_law_wishes_here"] (Φ__law_caught C_CutError C_NoWeb C_NoSide C_NoWishes C_TooGreat) := fun base => ok__law_caught F41 (PySem.W.mg_of X G a41) B cs cl (g_glued base)
  have g__law_led : ∀ base : Heap, Kn l.prog w K mg base "_law_led" 8 ["_law_web_here", "_law_wishes_here", "_law_groups_here", "_law_marks", "_law_due_here", "_law_side"] Φ__law_led := fun base => ok__law_led F43 (PySem.W.mg_of X G a43) B cs cl (g_led_back base) (g__law_weight_of base) (g__law_plus base)
  have g__law_refused : ∀ base : Heap, Kn l.prog w K mg base "_law_refused" 9 ["_law_web_here", "_law_wishes_here"] Φ__law_refused := fun base => ok__law_refused F42 (PySem.W.mg_of X G a42) B cs cl (g__law_caught base)
  have g__law_right : ∀ base : Heap, Kn l.prog w K mg base "_law_right" 9 ["_law_web_here", "_law_wishes_here"] Φ__law_right := fun base => ok__law_right F44 (PySem.W.mg_of X G a44) B cs cl (g__law_groups base) (g_glued base) (g__law_due base) (g__law_may_be base) (g__law_caught base) (g__law_led base)
  exact ⟨PySem.W.fnOf "law" "law" (defArgs s_law) (defBody s_law) (defScope s_law) .none kV46 dc46 pm46 an46 cd46 ct46, fun s v => .of_eq rfl, fun base _ _ => ok_of F46 sc_law len_law (by decide) (fun cdv A outer s H E hr => ⟨_, dv_law hr B cs cl (g__law_stream base) (g__law_cell_at base) (g__law_web base) (g__law_wishes base) (g__law_right base) (g__law_wrong_wishes base) (g__law_refused base) (g__law_caught base) (g_glued base), rd_law cl⟩)⟩
end K64
open PySem PySem.W PyProof.Rows
set_option maxRecDepth 100000 in
set_option maxHeartbeats 0 in
theorem PySem.Challenge.cw_heavycut_k64_glued_and_led_back_holds : PySem.Challenge.rw_heavycut_k64_glued_and_led_back.Holds := by
  w_on; o_law; k_head; (case hw => w_witness2)
  k_fill
  refine L2.walk_of (l := PySem.Challenge.rw_heavycut_k64_glued_and_led_back) (n := 63) (k := 10) (x := "_law_script") (CX := fun _ => L2.CX0) (sp := fun w => Hc.SpD _ K64.Φ_law) rfl (by decide) rfl ⟨rfl, by decide, by decide⟩ (fun w h Y => PySem.W.kIn_of Y) ?F (fun _ _ a ns hl hO hS => K64.law_at hl hO hS) (fun _ _ _ _ _ h => h)
  case F =>
    intro w mg fa h KX G hmg
    refine' K64.all_mk KX G hmg ?a1 ?l1 ?c1 ?k1 ?a2 ?l2 ?c2 ?k2 ?a3 ?l3 ?c3 ?k3 ?a4 ?l4 ?c4 ?k4 ?a5 ?l5 ?c5 ?k5 ?a6 ?l6 ?c6 ?k6 ?a7 ?l7 ?c7 ?k7 ?a8 ?l8 ?c8 ?k8 ?a9 ?l9 ?c9 ?k9 ?a10 ?l10 ?c10 ?k10 ?a11 ?l11 ?c11 ?k11 ?a12 ?l12 ?c12 ?k12 ?a13 ?l13 ?c13 ?k13 ?a14 ?l14 ?c14 ?k14 ?a15 ?l15 ?c15 ?k15 ?a16 ?l16 ?c16 ?k16 ?a17 ?l17 ?c17 ?k17 ?a18 ?l18 ?c18 ?k18 ?a19 ?l19 ?c19 ?k19 ?a20 ?l20 ?c20 ?k20 ?a21 ?l21 ?c21 ?k21 ?a22 ?l22 ?c22 ?k22 ?a23 ?l23 ?c23 ?k23 ?a24 ?l24 ?c24 ?k24 ?a25 ?l25 ?c25 ?k25 ?a26 ?l26 ?c26 ?k26 ?a27 ?l27 ?c27 ?k27 ?a28 ?l28 ?c28 ?k28 ?a29 ?l29 ?c29 ?k29 ?a30 ?l30 ?c30 ?k30 ?a31 ?l31 ?c31 ?k31 ?a32 ?l32 ?c32 ?k32 ?a33 ?l33 ?c33 ?k33 ?a34 ?l34 ?c34 ?k34 ?a35 ?l35 ?c35 ?k35 ?a36 ?l36 ?c36 ?k36 ?a37 ?l37 ?c37 ?k37 ?a38 ?l38 ?c38 ?k38 ?a39 ?l39 ?c39 ?k39 ?a40 ?l40 ?c40 ?k40 ?a41 ?l41 ?c41 ?k41 ?a42 ?l42 ?c42 ?k42 ?a43 ?l43 ?c43 ?k43 ?a44 ?l44 ?c44 ?k44 ?a45 ?l45 ?c45 ?k45 ?a46 ?l46 ?c46 ?k46 ?g_CutError ?g_NoWeb ?g_NoSide ?g_NoWishes ?g_TooGreat ?iq_CutError ?yq_CutError ?iq_NoWeb ?yq_NoWeb ?iq_NoSide ?yq_NoSide ?iq_NoWishes ?yq_NoWishes ?iq_TooGreat ?yq_TooGreat ?bq_CutError ?x_NoSide ?k_NoSide ?b_NoSide ?t_NoSide ?s_NoSide ?e0_NoSide ?e1_NoSide ?e2_NoSide ?e3_NoSide ?e4_NoSide ?e5_NoSide ?e6_NoSide ?e7_NoSide ?n_NoSide_NoWeb ?n_NoSide_NoWishes ?n_NoSide_TooGreat ?i_NoSide_CutError ?y_NoSide_CutError ?u_NoSide_CutError ?v_NoSide ?x_NoWeb ?k_NoWeb ?b_NoWeb ?t_NoWeb ?s_NoWeb ?e0_NoWeb ?e1_NoWeb ?e2_NoWeb ?e3_NoWeb ?e4_NoWeb ?e5_NoWeb ?e6_NoWeb ?e7_NoWeb ?n_NoWeb_NoSide ?n_NoWeb_NoWishes ?n_NoWeb_TooGreat ?i_NoWeb_CutError ?y_NoWeb_CutError ?u_NoWeb_CutError ?v_NoWeb ?x_NoWishes ?k_NoWishes ?b_NoWishes ?t_NoWishes ?s_NoWishes ?e0_NoWishes ?e1_NoWishes ?e2_NoWishes ?e3_NoWishes ?e4_NoWishes ?e5_NoWishes ?e6_NoWishes ?e7_NoWishes ?n_NoWishes_NoWeb ?n_NoWishes_NoSide ?n_NoWishes_TooGreat ?i_NoWishes_CutError ?y_NoWishes_CutError ?u_NoWishes_CutError ?v_NoWishes ?x_TooGreat ?k_TooGreat ?b_TooGreat ?t_TooGreat ?s_TooGreat ?e0_TooGreat ?e1_TooGreat ?e2_TooGreat ?e3_TooGreat ?e4_TooGreat ?e5_TooGreat ?e6_TooGreat ?e7_TooGreat ?n_TooGreat_NoWeb ?n_TooGreat_NoSide ?n_TooGreat_NoWishes ?i_TooGreat_CutError ?y_TooGreat_CutError ?u_TooGreat_CutError ?v_TooGreat ?m_MOST_POINTS ?m_MOST_TIES ?m_MOST_TOP ?m_MOST_BOTTOM ?m_MOST_WISHES ?z0 ?z1 ?z2 ?z3 ?z4 ?z5 ?z6 ?z7 ?z8 ?z9 ?z10 ?z11 ?z12 ?z13 ?z14
    (case a1 => k_is); (case l1 => k_is); (case c1 => k_is); (case k1 => k_is); (case a2 => k_is); (case l2 => k_is); (case c2 => k_is); (case k2 => k_is); (case a3 => k_is); (case l3 => k_is); (case c3 => k_is); (case k3 => k_is); (case a4 => k_is); (case l4 => k_is); (case c4 => k_is); (case k4 => k_is); (case a5 => k_is); (case l5 => k_is); (case c5 => k_is); (case k5 => k_is); (case a6 => k_is); (case l6 => k_is); (case c6 => k_is); (case k6 => k_is); (case a7 => k_is); (case l7 => k_is); (case c7 => k_is); (case k7 => k_is); (case a8 => k_is); (case l8 => k_is); (case c8 => k_is); (case k8 => k_is); (case a9 => k_is); (case l9 => k_is); (case c9 => k_is); (case k9 => k_is); (case a10 => k_is); (case l10 => k_is); (case c10 => k_is); (case k10 => k_is); (case a11 => k_is); (case l11 => k_is); (case c11 => k_is); (case k11 => k_is); (case a12 => k_is); (case l12 => k_is); (case c12 => k_is); (case k12 => k_is); (case a13 => k_is); (case l13 => k_is); (case c13 => k_is); (case k13 => k_is); (case a14 => k_is); (case l14 => k_is); (case c14 => k_is); (case k14 => k_is); (case a15 => k_is); (case l15 => k_is); (case c15 => k_is); (case k15 => k_is); (case a16 => k_is); (case l16 => k_is); (case c16 => k_is); (case k16 => k_is); (case a17 => k_is); (case l17 => k_is); (case c17 => k_is); (case k17 => k_is); (case a18 => k_is); (case l18 => k_is); (case c18 => k_is); (case k18 => k_is); (case a19 => k_is); (case l19 => k_is); (case c19 => k_is); (case k19 => k_is); (case a20 => k_is); (case l20 => k_is); (case c20 => k_is); (case k20 => k_is); (case a21 => k_is); (case l21 => k_is); (case c21 => k_is); (case k21 => k_is); (case a22 => k_is); (case l22 => k_is); (case c22 => k_is); (case k22 => k_is); (case a23 => k_is); (case l23 => k_is); (case c23 => k_is); (case k23 => k_is); (case a24 => k_is); (case l24 => k_is); (case c24 => k_is); (case k24 => k_is); (case a25 => k_is); (case l25 => k_is); (case c25 => k_is); (case k25 => k_is); (case a26 => k_is); (case l26 => k_is); (case c26 => k_is); (case k26 => k_is); (case a27 => k_is); (case l27 => k_is); (case c27 => k_is); (case k27 => k_is); (case a28 => k_is); (case l28 => k_is); (case c28 => k_is); (case k28 => k_is); (case a29 => k_is); (case l29 => k_is); (case c29 => k_is); (case k29 => k_is); (case a30 => k_is); (case l30 => k_is); (case c30 => k_is); (case k30 => k_is); (case a31 => k_is); (case l31 => k_is); (case c31 => k_is); (case k31 => k_is); (case a32 => k_is); (case l32 => k_is); (case c32 => k_is); (case k32 => k_is); (case a33 => k_is); (case l33 => k_is); (case c33 => k_is); (case k33 => k_is); (case a34 => k_is); (case l34 => k_is); (case c34 => k_is); (case k34 => k_is); (case a35 => k_is); (case l35 => k_is); (case c35 => k_is); (case k35 => k_is); (case a36 => k_is); (case l36 => k_is); (case c36 => k_is); (case k36 => k_is); (case a37 => k_is); (case l37 => k_is); (case c37 => k_is); (case k37 => k_is); (case a38 => k_is); (case l38 => k_is); (case c38 => k_is); (case k38 => k_is); (case a39 => k_is); (case l39 => k_is); (case c39 => k_is); (case k39 => k_is); (case a40 => k_is); (case l40 => k_is); (case c40 => k_is); (case k40 => k_is); (case a41 => k_is); (case l41 => k_is); (case c41 => k_is); (case k41 => k_is); (case a42 => k_is); (case l42 => k_is); (case c42 => k_is); (case k42 => k_is); (case a43 => k_is); (case l43 => k_is); (case c43 => k_is); (case k43 => k_is); (case a44 => k_is); (case l44 => k_is); (case c44 => k_is); (case k44 => k_is); (case a45 => k_is); (case l45 => k_is); (case c45 => k_is); (case k45 => k_is); (case a46 => k_is); (case l46 => k_is); (case c46 => k_is); (case k46 => k_is); (case g_CutError => k_is); (case g_NoWeb => k_is); (case g_NoSide => k_is); (case g_NoWishes => k_is); (case g_TooGreat => k_is); (case iq_CutError => k_is); (case yq_CutError => k_is); (case iq_NoWeb => k_is); (case yq_NoWeb => k_is); (case iq_NoSide => k_is); (case yq_NoSide => k_is); (case iq_NoWishes => k_is); (case yq_NoWishes => k_is); (case iq_TooGreat => k_is); (case yq_TooGreat => k_is); (case bq_CutError => k_is); (case x_NoSide => k_exc); (case k_NoSide => k_is); (case b_NoSide => k_is); (case t_NoSide => k_is); (case s_NoSide => first | rfl | k_is); (case e0_NoSide => k_is); (case e1_NoSide => k_is); (case e2_NoSide => k_is); (case e3_NoSide => k_is); (case e4_NoSide => k_is); (case e5_NoSide => k_is); (case e6_NoSide => k_is); (case e7_NoSide => k_is); (case n_NoSide_NoWeb => k_is); (case n_NoSide_NoWishes => k_is); (case n_NoSide_TooGreat => k_is); (case i_NoSide_CutError => k_is); (case y_NoSide_CutError => k_is); (case u_NoSide_CutError => k_is); (case v_NoSide => k_is); (case x_NoWeb => k_exc); (case k_NoWeb => k_is); (case b_NoWeb => k_is); (case t_NoWeb => k_is); (case s_NoWeb => first | rfl | k_is); (case e0_NoWeb => k_is); (case e1_NoWeb => k_is); (case e2_NoWeb => k_is); (case e3_NoWeb => k_is); (case e4_NoWeb => k_is); (case e5_NoWeb => k_is); (case e6_NoWeb => k_is); (case e7_NoWeb => k_is); (case n_NoWeb_NoSide => k_is); (case n_NoWeb_NoWishes => k_is); (case n_NoWeb_TooGreat => k_is); (case i_NoWeb_CutError => k_is); (case y_NoWeb_CutError => k_is); (case u_NoWeb_CutError => k_is); (case v_NoWeb => k_is); (case x_NoWishes => k_exc); (case k_NoWishes => k_is); (case b_NoWishes => k_is); (case t_NoWishes => k_is); (case s_NoWishes => first | rfl | k_is); (case e0_NoWishes => k_is); (case e1_NoWishes => k_is); (case e2_NoWishes => k_is); (case e3_NoWishes => k_is); (case e4_NoWishes => k_is); (case e5_NoWishes => k_is); (case e6_NoWishes => k_is); (case e7_NoWishes => k_is); (case n_NoWishes_NoWeb => k_is); (case n_NoWishes_NoSide => k_is); (case n_NoWishes_TooGreat => k_is); (case i_NoWishes_CutError => k_is); (case y_NoWishes_CutError => k_is); (case u_NoWishes_CutError => k_is); (case v_NoWishes => k_is); (case x_TooGreat => k_exc); (case k_TooGreat => k_is); (case b_TooGreat => k_is); (case t_TooGreat => k_is); (case s_TooGreat => first | rfl | k_is); (case e0_TooGreat => k_is); (case e1_TooGreat => k_is); (case e2_TooGreat => k_is); (case e3_TooGreat => k_is); (case e4_TooGreat => k_is); (case e5_TooGreat => k_is); (case e6_TooGreat => k_is); (case e7_TooGreat => k_is); (case n_TooGreat_NoWeb => k_is); (case n_TooGreat_NoSide => k_is); (case n_TooGreat_NoWishes => k_is); (case i_TooGreat_CutError => k_is); (case y_TooGreat_CutError => k_is); (case u_TooGreat_CutError => k_is); (case v_TooGreat => k_is); (case m_MOST_POINTS => k_is); (case m_MOST_TIES => k_is); (case m_MOST_TOP => k_is); (case m_MOST_BOTTOM => k_is); (case m_MOST_WISHES => k_is); (case z0 => k_is); (case z1 => k_is); (case z2 => k_is); (case z3 => k_is); (case z4 => k_is); (case z5 => k_is); (case z6 => k_is); (case z7 => k_is); (case z8 => k_is); (case z9 => k_is); (case z10 => k_is); (case z11 => k_is); (case z12 => k_is); (case z13 => k_is); (case z14 => k_is)
#print axioms PySem.Challenge.cw_heavycut_k64_glued_and_led_back_holds
