import PyProof.Rows.All
import Wide.All
import OpenK.AllK
import Wide.FinOn
import HandS.ForMost
import HandS.Wide
import HandS.Style
import HandS.IsInst
import HandS.Flow
import HandS.TryOnly
import HandS.TupMul
import HandS.ForExc
import HandS.ExcIs
import HandS.Zip
import HandS.SortInts
import HandS.SetFor
import HandS.Conv
import HandS.Walk
import KE.GoesEnum
import HandS.SortOrd
import HandS.Deep
import KE.SortData
import HandS.TupAny
import HandS.NoneIn
import PySem.Challenge.RW_heavycut_k04_lost_ties
set_option Elab.async false
set_option linter.all false
set_option maxRecDepth 100000
set_option maxHeartbeats 4000000
namespace Hc
open PySem PySem.Spec PyProof.Rows L2

/-! ### data in the heap, apart from the things L that may change -/
mutual
inductive Rp (L : List Addr) (H : Hp) : V → PyData → Prop
  | non : Rp L H .non .none
  | bl (b : Bool) : Rp L H (.bl b) (.bool b)
  | int (i : Int) : Rp L H (.int i) (.int i)
  | str (x : Str) : Rp L H (.str x) (.str x)
  | lst {a : Addr} {xs : List V} {ds : List PyData} : a ∉ L → H a = some (.lst xs) → RpA L H xs ds → Rp L H (.ref a) (.list ds)
  | tup {a : Addr} {xs : List V} {ds : List PyData} : a ∉ L → H a = some (.tup xs) → RpA L H xs ds → Rp L H (.ref a) (.tuple ds)
  | dct {a : Addr} {kvs : List (Key × V)} {ds : List (PyData × PyData)} : a ∉ L → H a = some (.dK kvs) → Rp L H (.ref a) (.dict ds)
inductive RpA (L : List Addr) (H : Hp) : List V → List PyData → Prop
  | nil : RpA L H [] []
  | cons {v : V} {vs : List V} {d : PyData} {ds : List PyData} : Rp L H v d → RpA L H vs ds → RpA L H (v :: vs) (d :: ds)
end
/-- what is outside L stays, and stays outside L' -/
def To (L L' : List Addr) (H H' : Hp) : Prop := ∀ a o, a ∉ L → H a = some o → a ∉ L' ∧ H' a = some o
mutual
theorem Rp.to {L L' : List Addr} {H H' : Hp} (w : To L L' H H') : ∀ (d : PyData) (v : V), Rp L H v d → Rp L' H' v d
  | .none, _, h => by cases h; exact .non
  | .bool b, _, h => by cases h; exact .bl b
  | .int i, _, h => by cases h; exact .int i
  | .str x, _, h => by cases h; exact .str x
  | .list ds, _, h => by
    cases h with
    | lst n e r => exact .lst (w _ _ n e).1 (w _ _ n e).2 (RpA.to w ds _ r)
  | .tuple ds, _, h => by
    cases h with
    | tup n e r => exact .tup (w _ _ n e).1 (w _ _ n e).2 (RpA.to w ds _ r)
  | .dict ds, _, h => by
    cases h with
    | dct n e => exact .dct (w _ _ n e).1 (w _ _ n e).2
theorem RpA.to {L L' : List Addr} {H H' : Hp} (w : To L L' H H') : ∀ (ds : List PyData) (vs : List V), RpA L H vs ds → RpA L' H' vs ds
  | [], _, h => by cases h; exact .nil
  | d :: ds, _, h => by
    cases h with
    | cons a b => exact .cons (Rp.to w d _ a) (RpA.to w ds _ b)
end
def Wk (L : List Addr) (H H' : Hp) : Prop := ∀ a o, a ∉ L → H a = some o → H' a = some o
theorem Wk.refl (L : List Addr) (H : Hp) : Wk L H H := fun _ _ _ h => h
theorem Wk.trans {L : List Addr} {H H1 H2 : Hp} (a : Wk L H H1) (b : Wk L H1 H2) : Wk L H H2 := fun x o n h => b x o n (a x o n h)
theorem Wk.to {L : List Addr} {H H' : Hp} (w : Wk L H H') : To L L H H' := fun a o n h => ⟨n, w a o n h⟩
theorem Wk.new {L : List Addr} {H : Hp} {p : Addr} {o : HO} (h : H p = none) : Wk L H (upd H p o) := fun a u _ e => by
  rw [upd_ne (ne_of_none e h)]; exact e
theorem Wk.mut {L : List Addr} {H : Hp} {p : Addr} {o : HO} (h : p ∈ L) : Wk L H (upd H p o) := fun a u n e => by
  rw [upd_ne (fun z : a = p => n (by rw [z]; exact h))]; exact e
theorem Rp.mono {L : List Addr} {H H' : Hp} (w : Wk L H H') {d : PyData} {v : V} (h : Rp L H v d) : Rp L H' v d := Rp.to w.to d v h
theorem RpA.mono {L : List Addr} {H H' : Hp} (w : Wk L H H') {ds : List PyData} {vs : List V} (h : RpA L H vs ds) : RpA L H' vs ds := RpA.to w.to ds vs h
theorem RpA.append {L : List Addr} {H : Hp} : ∀ {xs ys : List V} {ds es : List PyData}, RpA L H xs ds → RpA L H ys es → RpA L H (xs ++ ys) (ds ++ es)
  | _, _, _, _, .nil, h => h
  | _, _, _, _, .cons a b, h => .cons a (RpA.append b h)
theorem RpA.length {L : List Addr} {H : Hp} : ∀ {xs : List V} {ds : List PyData}, RpA L H xs ds → xs.length = ds.length
  | _, _, .nil => rfl
  | _, _, .cons _ b => by simp [RpA.length b]
theorem RpA.get {L : List Addr} {H : Hp} : ∀ {xs : List V} {ds : List PyData} {i : Nat} {d : PyData}, RpA L H xs ds → ds[i]? = some d → ∃ v, xs[i]? = some v ∧ Rp L H v d
  | _, _, _, _, .nil, e => by simp at e
  | _, _, 0, _, .cons a _, e => by simp at e; subst e; exact ⟨_, rfl, a⟩
  | _, _, i + 1, d, .cons _ b, e => by
    obtain ⟨v, h1, h2⟩ := RpA.get (i := i) (d := d) b (by simpa using e)
    exact ⟨v, by simpa using h1, h2⟩
theorem RpA.get' {L : List Addr} {H : Hp} : ∀ {xs : List V} {ds : List PyData} {i : Nat} {v : V}, RpA L H xs ds → xs[i]? = some v → ∃ d, ds[i]? = some d ∧ Rp L H v d
  | _, _, _, _, .nil, e => by simp at e
  | _, _, 0, _, .cons a _, e => by simp at e; subst e; exact ⟨_, rfl, a⟩
  | _, _, i + 1, v, .cons _ b, e => by
    obtain ⟨d, h1, h2⟩ := RpA.get' (i := i) (v := v) b (by simpa using e)
    exact ⟨d, by simpa using h1, h2⟩
theorem RpA.take {L : List Addr} {H : Hp} : ∀ {xs : List V} {ds : List PyData} (n : Nat), RpA L H xs ds → RpA L H (xs.take n) (ds.take n)
  | _, _, 0, _ => by simp only [List.take_zero]; exact .nil
  | _, _, n + 1, .nil => .nil
  | _, _, n + 1, .cons a b => .cons a (RpA.take n b)
theorem RpA.drop {L : List Addr} {H : Hp} : ∀ {xs : List V} {ds : List PyData} (n : Nat), RpA L H xs ds → RpA L H (xs.drop n) (ds.drop n)
  | _, _, 0, h => h
  | _, _, n + 1, .nil => .nil
  | _, _, n + 1, .cons _ b => RpA.drop n b
theorem RpA.set {L : List Addr} {H : Hp} : ∀ {xs : List V} {ds : List PyData} {v : V} {d : PyData} (n : Nat), RpA L H xs ds → Rp L H v d → RpA L H (xs.set n v) (ds.set n d)
  | _, _, _, _, _, .nil, _ => .nil
  | _, _, _, _, 0, .cons _ b, h => .cons h b
  | _, _, _, _, n + 1, .cons a b, h => .cons a (RpA.set n b h)
theorem RpA.reverse {L : List Addr} {H : Hp} : ∀ {xs : List V} {ds : List PyData}, RpA L H xs ds → RpA L H xs.reverse ds.reverse
  | _, _, .nil => .nil
  | _, _, .cons a b => by
    rw [List.reverse_cons, List.reverse_cons]
    exact (RpA.reverse b).append (.cons a .nil)
theorem RpA.ints {L : List Addr} {H : Hp} : ∀ (ns : List Int), RpA L H (ns.map V.int) (ns.map PyData.int)
  | [] => .nil
  | n :: r => .cons (.int n) (RpA.ints r)
theorem RpA.ints_inv {L : List Addr} {H : Hp} : ∀ {ns : List Int} {xs : List V}, RpA L H xs (ns.map PyData.int) → xs = ns.map V.int
  | [], _, h => by cases h; rfl
  | n :: r, _, h => by
    cases h with
    | cons a b => cases a; rw [RpA.ints_inv b]; rfl
theorem RpA.bools_inv {L : List Addr} {H : Hp} : ∀ {ns : List Bool} {xs : List V}, RpA L H xs (ns.map PyData.bool) → xs = ns.map V.bl
  | [], _, h => by cases h; rfl
  | n :: r, _, h => by
    cases h with
    | cons a b => cases a; rw [RpA.bools_inv b]; rfl
mutual
theorem Rp.dp {K : PySem.W.Frag} {L : List Addr} {H : Hp} : ∀ (d : PyData) (v : V), d.canLay0 = true → Rp L H v d → Dp K H v d
  | .none, _, _, h => by cases h; exact .non
  | .bool b, _, _, h => by cases h; exact .bl b
  | .int i, _, _, h => by cases h; exact .int i
  | .str x, _, _, h => by cases h; exact .str x
  | .list ds, _, c, h => by
    cases h with
    | lst n e r => exact .lst (SqL.of e) (RpA.dp ds _ (by simpa [PyData.canLay0] using c) r)
  | .tuple ds, _, c, h => by
    cases h with
    | tup n e r => exact .tup (SqT.of e) (RpA.dp ds _ (by simpa [PyData.canLay0] using c) r)
  | .dict ds, _, c, h => by simp [PyData.canLay0] at c
theorem RpA.dp {K : PySem.W.Frag} {L : List Addr} {H : Hp} : ∀ (ds : List PyData) (vs : List V), PyData.canLayAll0 ds = true → RpA L H vs ds → DpAll K H vs ds
  | [], _, _, h => by cases h; exact .nil
  | d :: ds, _, c, h => by
    cases h with
    | cons a b =>
      have c' : d.canLay0 = true ∧ PyData.canLayAll0 ds = true := by simpa [PyData.canLayAll0, Bool.and_eq_true] using c
      exact .cons (Rp.dp d _ c'.1 a) (RpA.dp ds _ c'.2 b)
end
/-- the type of a datum -/
def tyN : PyData → String
  | .none => "NoneType" | .bool _ => "bool" | .int _ => "int" | .str _ => "str" | .list _ => "list" | .tuple _ => "tuple" | .dict _ => "dict"
theorem Rp.ty {K : PySem.W.Frag} {L : List Addr} {H : Hp} {v : V} {d : PyData} (h : Rp L H v d) : TyX K H v (.type (tyN d)) := by
  cases h with
  | non => exact .base .non
  | bl b => exact .base (.bl b)
  | int i => exact .base (.int i)
  | str x => exact .base (.str x)
  | lst n e r => exact .base (.lst e)
  | tup n e r => exact .base (.tup e)
  | dct n e => exact .base (.dK e)


theorem Rp.keep {L M : List Addr} {H H' : Hp} (sub : ∀ p ∈ L, p ∈ M) (w : Wk L H H') {d : PyData} {v : V} (h : Rp M H v d) : Rp M H' v d := Rp.to (fun a o n e => ⟨n, w a o (fun z => n (sub a z)) e⟩) d v h
theorem RpA.keep {L M : List Addr} {H H' : Hp} (sub : ∀ p ∈ L, p ∈ M) (w : Wk L H H') {ds : List PyData} {vs : List V} (h : RpA M H vs ds) : RpA M H' vs ds := RpA.to (fun a o n e => ⟨n, w a o (fun z => n (sub a z)) e⟩) ds vs h

/-! ### slots, things that may change -/
inductive SD where
  | u | d (x : PyData) | m (k : Nat) | f (es : List PyData) | s (ns : List Int) | v (x : V)
inductive MD where
  | l (es : List PyData)
section
variable {K : PySem.W.Frag}
def MOk (M : List Addr) (H : Hp) (p : Addr) : MD → Prop
  | .l es => ∃ xs, H p = some (.lst xs) ∧ RpA M H xs es
/-- L: what may change, as ms tells it; M: all that is no part of data -/
structure At (L M : List Addr) (ms : List MD) (H : Hp) : Prop where
  nd : L.Nodup
  sub : ∀ p ∈ L, p ∈ M
  al : ∀ p ∈ M, H p ≠ none
  ln : L.length = ms.length
  ok : ∀ (k : Nat) (p : Addr) (m : MD), L[k]? = some p → ms[k]? = some m → MOk M H p m
section
variable {L M : List Addr} {ms : List MD} {H H' : Hp}
theorem MOk.to {M M' : List Addr} {p : Addr} {m : MD} (t : To M M' H H') (e : H' p = H p) (h : MOk M H p m) : MOk M' H' p m := by
  cases m with
  | l es =>
    obtain ⟨xs, e1, r⟩ := h
    exact ⟨xs, by rw [e]; exact e1, RpA.to t _ _ r⟩
theorem At.fresh (h : At L M ms H) {p : Addr} (e : H p = none) : p ∉ M := fun z => h.al p z e
theorem At.freshL (h : At L M ms H) {p : Addr} (e : H p = none) : p ∉ L := fun z => h.fresh e (h.sub p z)
theorem At.wk (h : At L M ms H) (w : Wk L H H') : To M M H H' := fun a o n e => ⟨n, w a o (fun z => n (h.sub a z)) e⟩
theorem At.new (h : At L M ms H) {p : Addr} {o : HO} (e : H p = none) : At L M ms (upd H p o) := by
  have ne : ∀ q, q ∈ M → q ≠ p := fun q hq z => h.fresh e (z ▸ hq)
  refine ⟨h.nd, h.sub, fun q hq => by rw [upd_ne (ne q hq)]; exact h.al q hq, h.ln, fun k q m e1 e2 => ?_⟩
  exact (h.ok k q m e1 e2).to (h.wk (Wk.new e)) (upd_ne (ne q (h.sub q (List.mem_of_getElem? e1))))
theorem At.put (h : At L M ms H) {k : Nat} {p : Addr} {xs : List V} {es : List PyData} (hk : L[k]? = some p) (r : RpA M H xs es) : At L M (ms.set k (.l es)) (upd H p (.lst xs)) := by
  have hp : p ∈ L := List.mem_of_getElem? hk
  have t : To M M H (upd H p (.lst xs)) := h.wk (Wk.mut hp)
  refine ⟨h.nd, h.sub, fun q hq => ?_, by rw [List.length_set]; exact h.ln, fun j q m e1 e2 => ?_⟩
  · by_cases e : q = p
    · subst e; rw [upd_same]; exact fun z => nomatch z
    · rw [upd_ne e]; exact h.al q hq
  · by_cases hj : j = k
    · subst hj
      rw [e1] at hk
      cases hk
      have hl : j < ms.length := by rw [← h.ln]; exact (List.getElem?_eq_some_iff.mp e1).1
      rw [List.getElem?_set_self hl] at e2
      cases e2
      exact ⟨xs, upd_same, RpA.to t _ _ r⟩
    · rw [List.getElem?_set_ne (Ne.symm hj)] at e2
      have hq : q ≠ p := fun z => by
        subst z
        obtain ⟨l1, e1'⟩ := List.getElem?_eq_some_iff.mp e1
        obtain ⟨l2, e2'⟩ := List.getElem?_eq_some_iff.mp hk
        exact hj ((List.getElem_inj h.nd).mp (e1'.trans e2'.symm))
      exact (h.ok j q m e1 e2).to t (upd_ne hq)
theorem At.get (h : At L M ms H) {k : Nat} {p : Addr} {es : List PyData} (hk : L[k]? = some p) (e : ms[k]? = some (.l es)) : ∃ xs, H p = some (.lst xs) ∧ RpA M H xs es := h.ok k p _ hk e
/-- a new thing that may change -/
theorem to_new {p : Addr} (h : At L M ms H) (hp : H p = none) (w : Wk L H H') : To M (M ++ [p]) H H' := fun a o n e =>
  ⟨fun z => (List.mem_append.mp z).elim n fun z => ne_of_none e hp (by simpa using z), w a o (fun z => n (h.sub a z)) e⟩
theorem At.grow {p : Addr} {xs : List V} {es : List PyData} (h : At L M ms H) (hp : H p = none) (r : RpA M H xs es) : At (L ++ [p]) (M ++ [p]) (ms ++ [.l es]) (upd H p (.lst xs)) := by
  have n := h.freshL hp
  have t : To M (M ++ [p]) H (upd H p (.lst xs)) := to_new h hp (Wk.new hp)
  refine ⟨List.nodup_append.mpr ⟨h.nd, by simp, fun a ha b hb e => n (by simp at hb; subst hb e; exact ha)⟩, ?_, ?_, by simp [h.ln], fun k q m e1 e2 => ?_⟩
  · intro q hq
    rcases List.mem_append.mp hq with z | z
    · exact List.mem_append_left _ (h.sub q z)
    · exact List.mem_append_right _ z
  · intro q hq
    by_cases e : q = p
    · subst e; rw [upd_same]; exact fun z => nomatch z
    · rw [upd_ne e]
      rcases List.mem_append.mp hq with z | z
      · exact h.al q z
      · exact absurd (by simpa using z) e
  · by_cases hk : k < L.length
    · rw [List.getElem?_append_left hk] at e1
      rw [List.getElem?_append_left (by rw [← h.ln]; exact hk)] at e2
      have hq : q ≠ p := fun z => n (z ▸ List.mem_of_getElem? e1)
      exact (h.ok k q m e1 e2).to t (upd_ne hq)
    · have hk2 : k = L.length := by
        have := (List.getElem?_eq_some_iff.mp e1).1
        simp at this
        omega
      subst hk2
      simp at e1
      subst e1
      rw [h.ln] at e2
      simp at e2
      subst e2
      exact ⟨xs, upd_same, RpA.to t _ _ r⟩
theorem to_less {p : Addr} : To (M ++ [p]) M H H := fun a o n e => ⟨fun z => n (List.mem_append_left _ z), e⟩
theorem At.drop {p : Addr} {m : MD} (h : At (L ++ [p]) (M ++ [p]) (ms ++ [m]) H) (hl : ∀ q ∈ L, q ∈ M) : At L M ms H :=
  ⟨(List.nodup_append.mp h.nd).1, hl, fun q hq => h.al q (List.mem_append_left _ hq), by have := h.ln; simp at this; exact this, fun k q x e1 e2 => by
    have h1 : k < L.length := (List.getElem?_eq_some_iff.mp e1).1
    have h2 : k < ms.length := (List.getElem?_eq_some_iff.mp e2).1
    exact (h.ok k q x (by rw [List.getElem?_append_left h1]; exact e1) (by rw [List.getElem?_append_left h2]; exact e2)).to to_less rfl⟩
theorem At.last {p : Addr} {es : List PyData} (h : At (L ++ [p]) (M ++ [p]) (ms ++ [.l es]) H) : ∃ xs, H p = some (.lst xs) ∧ RpA (M ++ [p]) H xs es := by
  have hl : L.length = ms.length := by have := h.ln; simp at this; exact this
  exact h.ok L.length p (.l es) (by simp) (by rw [hl]; simp)
end
def SlOk (K : PySem.W.Frag) (L M : List Addr) (H : Hp) : SD → V → Prop
  | .d x, v => Rp M H v x
  | .m k, v => ∃ p, v = .ref p ∧ L[k]? = some p
  | .s ns, v => ∃ a, v = .ref a ∧ ((a ∉ M ∧ Rd H a (.lst (ns.map V.int))) ∨ ∀ H' : Hp, SqL K H' a (ns.map V.int))
  | .v x, v => v = x
  | _, _ => False
section
variable {L M : List Addr} {ms : List MD} {H H' : Hp} {σ : L2.St} {ds : List SD}
theorem SlOk.to {L' M' : List Addr} (t : To M M' H H') (hl : ∀ (k : Nat) (p : Addr), L[k]? = some p → L'[k]? = some p) : ∀ {s : SD} {v : V}, SlOk K L M H s v → SlOk K L' M' H' s v
  | .d x, v, h => Rp.to t _ _ h
  | .m k, v, ⟨p, e, q⟩ => ⟨p, e, hl k p q⟩
  | .s ns, v, ⟨a, e, .inl ⟨n, q⟩⟩ => ⟨a, e, .inl (by
      rcases q with q | ⟨o, q⟩
      · exact ⟨(t _ _ n q).1, .inl (t _ _ n q).2⟩
      · exact ⟨(t _ _ n q).1, .inr ⟨o, (t _ _ n q).2⟩⟩)⟩
  | .s ns, v, ⟨a, e, .inr q⟩ => ⟨a, e, .inr q⟩
  | .v x, v, h => h
  | .u, _, h => h.elim
  | .f _, _, h => h.elim
theorem SlOk.mono (h : At L M ms H) (w : Wk L H H') {s : SD} {v : V} (r : SlOk K L M H s v) : SlOk K L M H' s v := r.to (h.wk w) fun _ _ e => e
def Sl (K : PySem.W.Frag) (L M : List Addr) (σ : L2.St) (H : Hp) (ds : List SD) : Prop := ∀ (i : Nat) (s : SD), ds[i]? = some s → match s with | .u => i < σ.length | s => ∃ v, σ[i]? = some (some v) ∧ SlOk K L M H s v
theorem Sl.lt (h : Sl K L M σ H ds) {i : Nat} (hi : i < ds.length) : i < σ.length := by
  have q := h i ds[i] (by simp [hi])
  split at q
  · exact q
  · obtain ⟨v, e, _⟩ := q
    exact (List.getElem?_eq_some_iff.mp e).1
theorem Sl.get (h : Sl K L M σ H ds) {i : Nat} {s : SD} (e : ds[i]? = some s) (n : s ≠ .u) : ∃ v, σ[i]? = some (some v) ∧ SlOk K L M H s v := by
  have q := h i s e
  split at q
  · exact absurd rfl n
  · exact q
theorem Sl.to {L' M' : List Addr} (t : To M M' H H') (hl : ∀ (k : Nat) (p : Addr), L[k]? = some p → L'[k]? = some p) (h : Sl K L M σ H ds) : Sl K L' M' σ H' ds := fun i s e => by
  have q := h i s e
  split at q
  · exact q
  · obtain ⟨v, e1, e2⟩ := q
    exact ⟨v, e1, e2.to t hl⟩
theorem Sl.mono (a : At L M ms H) (w : Wk L H H') (h : Sl K L M σ H ds) : Sl K L M σ H' ds := h.to (a.wk w) fun _ _ e => e
theorem Sl.set (h : Sl K L M σ H ds) (i : Nat) {s : SD} {v : V} (r : SlOk K L M H s v) : Sl K L M (σ.set i (some v)) H (ds.set i s) := fun j t e => by
  by_cases hj : j = i
  · subst hj
    have hl : j < ds.length := by
      have := (List.getElem?_eq_some_iff.mp e).1
      rwa [List.length_set] at this
    rw [List.getElem?_set_self hl] at e
    cases e
    have hs := h.lt hl
    cases s with
    | u => exact r.elim
    | f _ => exact r.elim
    | d x => exact ⟨v, List.getElem?_set_self hs, r⟩
    | m k => exact ⟨v, List.getElem?_set_self hs, r⟩
    | s ns => exact ⟨v, List.getElem?_set_self hs, r⟩
    | v x => exact ⟨v, List.getElem?_set_self hs, r⟩
  · rw [List.getElem?_set_ne (Ne.symm hj)] at e
    have q := h j t e
    split at q
    · show j < (σ.set i (some v)).length
      rw [List.length_set]; exact q
    · obtain ⟨w, e1, e2⟩ := q
      exact ⟨w, by rw [List.getElem?_set_ne (Ne.symm hj)]; exact e1, e2⟩
theorem Sl.forget (h : Sl K L M σ H ds) (i : Nat) (o : Option V) : Sl K L M (σ.set i o) H (ds.set i .u) := fun j t e => by
  by_cases hj : j = i
  · subst hj
    have hl : j < ds.length := by
      have := (List.getElem?_eq_some_iff.mp e).1
      rwa [List.length_set] at this
    rw [List.getElem?_set_self hl] at e
    cases e
    show j < (σ.set j o).length
    rw [List.length_set]; exact h.lt hl
  · rw [List.getElem?_set_ne (Ne.symm hj)] at e
    have q := h j t e
    split at q
    · show j < (σ.set i o).length
      rw [List.length_set]; exact q
    · obtain ⟨w, e1, e2⟩ := q
      exact ⟨w, by rw [List.getElem?_set_ne (Ne.symm hj)]; exact e1, e2⟩
end
def wipeD (ds : List SD) : List Nat → List SD
  | [] => ds
  | v :: vs => (wipeD ds vs).set v .u
theorem Sl.wipe {L M : List Addr} {σ : L2.St} {H : Hp} {ds : List SD} (h : Sl K L M σ H ds) : ∀ vs : List Nat, Sl K L M (L2.wipe σ vs) H (wipeD ds vs)
  | [] => h
  | v :: vs => (Sl.wipe h vs).forget v none
/-- what comes out of an evaluation that began at H -/
def Out (K : PySem.W.Frag) (L M : List Addr) (H H' : Hp) (ms : List MD) (v : V) : SD → Prop
  | .f es => ∃ p, v = .ref p ∧ H p = none ∧ p ∉ M ∧ At (L ++ [p]) (M ++ [p]) (ms ++ [.l es]) H' ∧ ∀ q ∈ L, q ∈ M
  | s => At L M ms H' ∧ SlOk K L M H' s v
def dd : SD → SD
  | .f es => .d (.list es)
  | s => s
section
variable {L M : List Addr} {ms : List MD} {H0 H H' : Hp} {v : V}
theorem Out.dd : ∀ {s : SD}, Out K L M H H' ms v s → Out K L M H H' ms v (dd s)
  | .f es, ⟨p, e, _, n, a, sb⟩ => by
    obtain ⟨xs, e1, r⟩ := a.last
    refine ⟨a.drop sb, ?_⟩
    subst e
    exact .lst n e1 (RpA.to to_less _ _ r)
  | .d x, h => h
  | .m k, h => h
  | .s ns, h => h
  | .v x, h => h
  | .u, h => h
theorem none_back (a : At L M ms H) {p : Addr} (w : Wk L H0 H) (n : p ∉ M) (h : H p = none) : H0 p = none := by
  cases q : H0 p with
  | none => rfl
  | some o =>
    rw [w p o (fun z => n (a.sub p z)) q] at h
    cases h
theorem Out.back (a : At L M ms0 H) (w : Wk L H0 H) : ∀ {s : SD}, Out K L M H H' ms v s → Out K L M H0 H' ms v s
  | .f es, ⟨p, e, h, n, b, sb⟩ => ⟨p, e, none_back a w n h, n, b, sb⟩
  | .d x, h => h
  | .m k, h => h
  | .s ns, h => h
  | .v x, h => h
  | .u, h => h
theorem Out.at : ∀ {s : SD}, Out K L M H H' ms v s → At L M ms H'
  | .f es, ⟨p, _, _, _, a, sb⟩ => a.drop sb
  | .d _, h => h.1
  | .m _, h => h.1
  | .s _, h => h.1
  | .v _, h => h.1
  | .u, h => h.1
theorem Out.of (a : At L M ms H') : ∀ {s : SD}, SlOk K L M H' s v → Out K L M H H' ms v s
  | .d x, h => ⟨a, h⟩
  | .m k, h => ⟨a, h⟩
  | .s ns, h => ⟨a, h⟩
  | .v x, h => ⟨a, h⟩
  | .u, h => h.elim
  | .f _, h => h.elim
theorem Out.sl : ∀ {s : SD}, Out K L M H H' ms v s → SlOk K L M H' (Hc.dd s) v
  | .f es, h => (Out.dd h).2
  | .d _, h => h.2
  | .m _, h => h.2
  | .s _, h => h.2
  | .v _, h => h.2
  | .u, h => h.2
end

/-! ### evaluations, at the level of data -/
abbrev RS := SD → List MD → Prop
def E (K : PySem.W.Frag) (te : TE) (ds : List SD) (ms : List MD) (R : RS) : Prop :=
  ∀ (L M : List Addr) (σ : L2.St) (H : Hp), Sl K L M σ H ds → At L M ms H → ∀ Q : VK, (∀ s v H' ms', Wk L H H' → Out K L M H H' ms' v s → R s ms' → Q v H') → te σ H Q
def ET (K : PySem.W.Frag) (tt : TT) (ds : List SD) (ms : List MD) (R : Bool → List MD → Prop) : Prop :=
  ∀ (L M : List Addr) (σ : L2.St) (H : Hp), Sl K L M σ H ds → At L M ms H → ∀ Q : Bool → Hp → Prop, (∀ b H' ms', Wk L H H' → At L M ms' H' → R b ms' → Q b H') → tt σ H Q
def SlsOk (K : PySem.W.Frag) (L M : List Addr) (H : Hp) : List SD → List V → Prop
  | [], vs => vs = []
  | s :: r, vs => ∃ v t, vs = v :: t ∧ SlOk K L M H s v ∧ SlsOk K L M H r t
theorem SlsOk.mono {L M : List Addr} {ms : List MD} {H H' : Hp} (h : At L M ms H) (w : Wk L H H') : ∀ {as : List SD} {vs : List V}, SlsOk K L M H as vs → SlsOk K L M H' as vs
  | [], _, r => r
  | s :: r, _, ⟨v, t, e, a, b⟩ => ⟨v, t, e, a.mono h w, SlsOk.mono h w b⟩
def EA (K : PySem.W.Frag) (ta : TA) (ds : List SD) (ms : List MD) (R : List SD → List MD → Prop) : Prop :=
  ∀ (L M : List Addr) (σ : L2.St) (H : Hp), Sl K L M σ H ds → At L M ms H → ∀ Q : List V → Hp → Prop, (∀ as vs H' ms', Wk L H H' → At L M ms' H' → SlsOk K L M H' as vs → R as ms' → Q vs H') → ta σ H Q
/-- operations on values -/
def RR (K : PySem.W.Frag) (r : R2) (a b : SD) (ms : List MD) (R : RS) : Prop :=
  ∀ (L M : List Addr) (H : Hp) (x y : V), At L M ms H → SlOk K L M H a x → SlOk K L M H b y → ∀ Q : VK, (∀ s v H' ms', Wk L H H' → Out K L M H H' ms' v s → R s ms' → Q v H') → r x y H Q
def RU (K : PySem.W.Frag) (r : V → Hp → VK → Prop) (a : SD) (ms : List MD) (R : RS) : Prop :=
  ∀ (L M : List Addr) (H : Hp) (x : V), At L M ms H → SlOk K L M H a x → ∀ Q : VK, (∀ s v H' ms', Wk L H H' → Out K L M H H' ms' v s → R s ms' → Q v H') → r x H Q
def RC (K : PySem.W.Frag) (r : List V → Hp → VK → Prop) (as : List SD) (ms : List MD) (R : RS) : Prop :=
  ∀ (L M : List Addr) (H : Hp) (vs : List V), At L M ms H → SlsOk K L M H as vs → ∀ Q : VK, (∀ s v H' ms', Wk L H H' → Out K L M H H' ms' v s → R s ms' → Q v H') → r vs H Q

variable {te ta tb tc : TE} {tt tu : TT} {tA tB : TA} {ds : List SD} {ms : List MD} {R : RS}
theorem e_var {i : Nat} {x : PyData} (h : ds[i]? = some (.d x)) (r : R (.d x) ms) : E K (tVar i) ds ms R := fun L M σ H hS hA Q q => by
  obtain ⟨v, e, o⟩ := hS.get h (fun z => nomatch z)
  exact ⟨v, e, q _ v H ms (Wk.refl L H) (.of hA o) r⟩
theorem e_varm {i k : Nat} (h : ds[i]? = some (.m k)) (r : R (.m k) ms) : E K (tVar i) ds ms R := fun L M σ H hS hA Q q => by
  obtain ⟨v, e, o⟩ := hS.get h (fun z => nomatch z)
  exact ⟨v, e, q _ v H ms (Wk.refl L H) (.of hA o) r⟩
theorem e_vars {i : Nat} {ns : List Int} (h : ds[i]? = some (.s ns)) (r : R (.s ns) ms) : E K (tVar i) ds ms R := fun L M σ H hS hA Q q => by
  obtain ⟨v, e, o⟩ := hS.get h (fun z => nomatch z)
  exact ⟨v, e, q _ v H ms (Wk.refl L H) (.of hA o) r⟩
theorem e_varv {i : Nat} {x : V} (h : ds[i]? = some (.v x)) (r : R (.v x) ms) : E K (tVar i) ds ms R := fun L M σ H hS hA Q q => by
  obtain ⟨v, e, o⟩ := hS.get h (fun z => nomatch z)
  exact ⟨v, e, q _ v H ms (Wk.refl L H) (.of hA o) r⟩
theorem e_cv {x : V} (r : R (.v x) ms) : E K (tC x) ds ms R := fun L M σ H hS hA Q q => q (.v x) x H ms (Wk.refl L H) ⟨hA, rfl⟩ r
theorem e_int {i : Int} (r : R (.d (.int i)) ms) : E K (tC (.int i)) ds ms R := fun L M σ H hS hA Q q => q (.d (.int i)) _ H ms (Wk.refl L H) ⟨hA, .int i⟩ r
theorem e_bl {i : Bool} (r : R (.d (.bool i)) ms) : E K (tC (.bl i)) ds ms R := fun L M σ H hS hA Q q => q (.d (.bool i)) _ H ms (Wk.refl L H) ⟨hA, .bl i⟩ r
theorem e_non (r : R (.d .none) ms) : E K (tC .non) ds ms R := fun L M σ H hS hA Q q => q (.d .none) _ H ms (Wk.refl L H) ⟨hA, .non⟩ r
theorem e_str {x : Str} (r : R (.d (.str x)) ms) : E K (tC (.str x)) ds ms R := fun L M σ H hS hA Q q => q (.d (.str x)) _ H ms (Wk.refl L H) ⟨hA, .str x⟩ r
/-- two operands, then the operation -/
theorem e_op {r : R2} (h : E K ta ds ms fun a ms1 => E K tb ds ms1 fun b ms2 => RR K r (dd a) (dd b) ms2 R) : E K (tOp r ta tb) ds ms R := fun L M σ H hS hA Q q =>
  h L M σ H hS hA _ fun a x H1 ms1 w1 o1 h1 => h1 L M σ H1 (hS.mono hA w1) o1.at _ fun b y H2 ms2 w2 o2 h2 =>
    h2 L M H2 x y o2.at (o1.sl.mono o1.at w2) o2.sl Q fun s v H3 ms3 w3 o3 r3 => q s v H3 ms3 ((w1.trans w2).trans w3) (o3.back o2.at (w1.trans w2)) r3
theorem e_un {r : V → Hp → VK → Prop} (h : E K ta ds ms fun a ms1 => RU K r (dd a) ms1 R) : E K (tUn r ta) ds ms R := fun L M σ H hS hA Q q =>
  h L M σ H hS hA _ fun a x H1 ms1 w1 o1 h1 => h1 L M H1 x o1.at o1.sl Q fun s v H3 ms3 w3 o3 r3 => q s v H3 ms3 (w1.trans w3) (o3.back o1.at w1) r3
theorem ea_nil {R : List SD → List MD → Prop} (r : R [] ms) : EA K tNil ds ms R := fun L M σ H hS hA Q q => q [] [] H ms (Wk.refl L H) hA rfl r
theorem ea_cons {R : List SD → List MD → Prop} (h : E K ta ds ms fun a ms1 => EA K tA ds ms1 fun as ms2 => R (dd a :: as) ms2) : EA K (tCons ta tA) ds ms R := fun L M σ H hS hA Q q =>
  h L M σ H hS hA _ fun a x H1 ms1 w1 o1 h1 => h1 L M σ H1 (hS.mono hA w1) o1.at _ fun as vs H2 ms2 w2 a2 o2 r2 => q (dd a :: as) (x :: vs) H2 ms2 (w1.trans w2) a2 ⟨x, vs, rfl, o1.sl.mono o1.at w2, o2⟩ r2
theorem e_cb {r : List V → Hp → VK → Prop} (h : EA K tA ds ms fun as ms1 => RC K r as ms1 R) : E K (tCB r tA) ds ms R := fun L M σ H hS hA Q q =>
  h L M σ H hS hA _ fun as vs H1 ms1 w1 a1 o1 h1 => h1 L M H1 vs a1 o1 Q fun s v H3 ms3 w3 o3 r3 => q s v H3 ms3 (w1.trans w3) (o3.back a1 w1) r3
theorem SlsOk.data {L M : List Addr} {H : Hp} : ∀ {as : List PyData} {vs : List V}, SlsOk K L M H (as.map .d) vs → RpA M H vs as
  | [], _, h => by cases h; exact .nil
  | a :: r, _, ⟨v, t, e, x, y⟩ => by subst e; exact .cons x (SlsOk.data y)
/-- new tuples and lists -/
theorem e_tup (h : EA K tA ds ms fun as ms1 => ∃ xs, as = xs.map SD.d ∧ xs.length ≤ 10000 ∧ R (.d (.tuple xs)) ms1) : E K (tTup tA) ds ms R := fun L M σ H hS hA Q q =>
  h L M σ H hS hA _ fun as vs H1 ms1 w1 a1 o1 ⟨xs, e, hz, r⟩ => by
    subst e
    have hr := o1.data
    refine ⟨by rw [hr.length]; exact Nat.le_trans hz (by decide), fun p hp => ?_⟩
    refine q (.d (.tuple xs)) _ _ ms1 (w1.trans (Wk.new hp)) ⟨a1.new hp, ?_⟩ r
    exact .tup (a1.fresh hp) upd_same (RpA.to (a1.wk (Wk.new hp)) _ _ hr)
theorem out_new {L M : List Addr} {H H1 : Hp} {ms1 : List MD} {p : Addr} {xs : List V} {es : List PyData} (a1 : At L M ms1 H1) (w1 : Wk L H H1) (hp : H1 p = none) (hr : RpA M H1 xs es) : Out K L M H (upd H1 p (.lst xs)) ms1 (.ref p) (.f es) :=
  ⟨p, rfl, none_back a1 w1 (a1.fresh hp) hp, a1.fresh hp, a1.grow hp hr, a1.sub⟩
theorem e_lst (h : EA K tA ds ms fun as ms1 => ∃ xs, as = xs.map SD.d ∧ xs.length ≤ 10000 ∧ R (.f xs) ms1) : E K (tLst tA) ds ms R := fun L M σ H hS hA Q q =>
  h L M σ H hS hA _ fun as vs H1 ms1 w1 a1 o1 ⟨xs, e, hz, r⟩ => by
    subst e
    have hr := o1.data
    refine ⟨by rw [hr.length]; exact Nat.le_trans hz (by decide), fun p hp => ?_⟩
    exact q (.f xs) _ _ ms1 (w1.trans (Wk.new hp)) (out_new a1 w1 hp hr) r
/-! operations -/
theorem rr_I0 {g : Int → Int → Int} {a b : SD} (h : ∃ i j, a = .d (.int i) ∧ b = .d (.int j) ∧ R (.d (.int (g i j))) ms) : RR K (rI0 fun i j => .int (g i j)) a b ms R := fun L M H x y hA ha hb Q q => by
  obtain ⟨i, j, rfl, rfl, r⟩ := h
  cases ha; cases hb
  exact ⟨i, j, rfl, rfl, q (.d _) _ H ms (Wk.refl L H) ⟨hA, .int _⟩ r⟩
theorem rr_B0 {g : Int → Int → Bool} {a b : SD} (h : ∃ i j, a = .d (.int i) ∧ b = .d (.int j) ∧ R (.d (.bool (g i j))) ms) : RR K (rI0 fun i j => .bl (g i j)) a b ms R := fun L M H x y hA ha hb Q q => by
  obtain ⟨i, j, rfl, rfl, r⟩ := h
  cases ha; cases hb
  exact ⟨i, j, rfl, rfl, q (.d _) _ H ms (Wk.refl L H) ⟨hA, .bl _⟩ r⟩
theorem rr_I {C : Int → Int → Prop} {g : Int → Int → Int} {a b : SD} (h : ∃ i j, a = .d (.int i) ∧ b = .d (.int j) ∧ C i j ∧ R (.d (.int (g i j))) ms) : RR K (rI C fun i j => .int (g i j)) a b ms R := fun L M H x y hA ha hb Q q => by
  obtain ⟨i, j, rfl, rfl, c, r⟩ := h
  cases ha; cases hb
  exact ⟨i, j, rfl, rfl, c, q (.d _) _ H ms (Wk.refl L H) ⟨hA, .int _⟩ r⟩
theorem ru_I {g : Int → Int} {a : SD} (h : ∃ i, a = .d (.int i) ∧ R (.d (.int (g i))) ms) : RU K (rU fun i => .int (g i)) a ms R := fun L M H x hA ha Q q => by
  obtain ⟨i, rfl, r⟩ := h
  cases ha
  exact ⟨i, rfl, q (.d _) _ H ms (Wk.refl L H) ⟨hA, .int _⟩ r⟩
/-- a slot's datum, as it may be read -/
inductive Sv (ms : List MD) : SD → PyData → Prop
  | d (x : PyData) : Sv ms (.d x) x
  | m {k : Nat} {es : List PyData} : ms[k]? = some (.l es) → Sv ms (.m k) (.list es)
  | s (ns : List Int) : Sv ms (.s ns) (.list (ns.map .int))
section
variable {L M : List Addr} {H : Hp} {s : SD} {x : PyData} {v : V}
theorem Sv.lst {es : List PyData} (h : Sv ms s (.list es)) (hA : At L M ms H) (o : SlOk K L M H s v) : ∃ a xs, v = .ref a ∧ SqL K H a xs ∧ RpA M H xs es := by
  cases h with
  | d =>
    cases o with
    | lst n e r => exact ⟨_, _, rfl, SqL.of e, r⟩
  | m e =>
    obtain ⟨p, rfl, hp⟩ := o
    obtain ⟨xs, e1, r⟩ := hA.get hp e
    exact ⟨p, xs, rfl, SqL.of e1, r⟩
  | s ns =>
    obtain ⟨a, rfl, ⟨_, q⟩ | q⟩ := o
    · exact ⟨a, _, rfl, .inl q, RpA.ints ns⟩
    · exact ⟨a, _, rfl, q H, RpA.ints ns⟩
theorem Sv.tup {es : List PyData} (h : Sv ms s (.tuple es)) (o : SlOk K L M H s v) : ∃ a xs, v = .ref a ∧ H a = some (.tup xs) ∧ RpA M H xs es := by
  cases h with
  | d =>
    cases o with
    | tup n e r => exact ⟨_, _, rfl, e, r⟩
theorem Sv.dp (h : Sv ms s x) (hA : At L M ms H) (o : SlOk K L M H s v) (c : x.canLay0 = true) : Dp K H v x := by
  cases h with
  | d => exact Rp.dp _ _ c o
  | m e =>
    obtain ⟨a, xs, rfl, q, r⟩ := Sv.lst (.m e) hA o
    exact .lst q (RpA.dp _ _ (by simpa [PyData.canLay0] using c) r)
  | s ns =>
    obtain ⟨a, xs, rfl, q, r⟩ := Sv.lst (.s ns) hA o
    exact .lst q (RpA.dp _ _ (by simpa [PyData.canLay0] using c) r)
theorem Sv.ty (h : Sv ms s x) (hA : At L M ms H) (o : SlOk K L M H s v) (hs : ∀ ns, s ≠ .s ns) : TyX K H v (.type (tyN x)) := by
  cases h with
  | d => exact Rp.ty o
  | m e =>
    obtain ⟨p, rfl, hp⟩ := o
    obtain ⟨xs, e1, r⟩ := hA.get hp e
    exact .base (.lst e1)
  | s ns => exact absurd rfl (hs ns)
end
theorem rr_eq {a b : SD} (h : ∃ x y, Sv ms a x ∧ Sv ms b y ∧ SeqAt.shaped x = true ∧ SeqAt.shaped y = true ∧ R (.d (.bool (PyData.eqv x y))) ms) : RR K (rEqD K) a b ms R := fun L M H u v hA ha hb Q q => by
  obtain ⟨x, y, ea, eb, s1, s2, r⟩ := h
  exact ⟨x, y, ea.dp hA ha (SeqAt.canLay_of_shaped s1), eb.dp hA hb (SeqAt.canLay_of_shaped s2), s1, s2, q (.d _) _ H ms (Wk.refl L H) ⟨hA, .bl _⟩ r⟩
theorem rr_ne {a b : SD} (h : ∃ x y, Sv ms a x ∧ Sv ms b y ∧ SeqAt.shaped x = true ∧ SeqAt.shaped y = true ∧ R (.d (.bool (!PyData.eqv x y))) ms) : RR K (rNeD K) a b ms R := fun L M H u v hA ha hb Q q => by
  obtain ⟨x, y, ea, eb, s1, s2, r⟩ := h
  exact ⟨x, y, ea.dp hA ha (SeqAt.canLay_of_shaped s1), eb.dp hA hb (SeqAt.canLay_of_shaped s2), s1, s2, q (.d _) _ H ms (Wk.refl L H) ⟨hA, .bl _⟩ r⟩
end
end Hc

namespace Hc
open PySem PySem.Spec PyProof.Rows L2
section
variable {K : PySem.W.Frag} {te ta tb tc tl : TE} {tt tu : TT} {tA tB : TA} {ds : List SD} {ms : List MD} {R : RS}
/-! ### tests -/
theorem et_test {RB : Bool → List MD → Prop} (h : E K te ds ms fun s ms1 => ∃ b, s = .d (.bool b) ∧ RB b ms1) : ET K (tTest te) ds ms RB := fun L M σ H hS hA Q q =>
  h L M σ H hS hA _ fun s v H1 ms1 w o ⟨b, e, r⟩ => by
    subst e
    obtain ⟨a, z⟩ := o
    cases z
    exact ⟨b, rfl, q b H1 ms1 w a r⟩
theorem et_B {RB : Bool → List MD → Prop} (h : E K te ds ms fun s ms1 => ∃ b, s = .d (.bool b) ∧ RB b ms1) : ET K (L2.tB te) ds ms RB := fun L M σ H hS hA Q q =>
  h L M σ H hS hA _ fun s v H1 ms1 w o ⟨b, e, r⟩ => by
    subst e
    obtain ⟨a, z⟩ := o
    cases z
    exact ⟨b, rfl, q b H1 ms1 w a r⟩
theorem et_and {RB : Bool → List MD → Prop} (h : ET K tt ds ms fun b ms1 => (b = true → ET K tu ds ms1 RB) ∧ (b = false → RB false ms1)) : ET K (tAnd tt tu) ds ms RB := fun L M σ H hS hA Q q =>
  h L M σ H hS hA _ fun b H1 ms1 w a ⟨r1, r2⟩ => by
    cases b with
    | true =>
      show tu σ H1 Q
      exact r1 rfl L M σ H1 (hS.mono hA w) a Q fun c H2 ms2 w2 a2 r => q c H2 ms2 (w.trans w2) a2 r
    | false => exact q false H1 ms1 w a (r2 rfl)
theorem et_or {RB : Bool → List MD → Prop} (h : ET K tt ds ms fun b ms1 => (b = true → RB true ms1) ∧ (b = false → ET K tu ds ms1 RB)) : ET K (tOr tt tu) ds ms RB := fun L M σ H hS hA Q q =>
  h L M σ H hS hA _ fun b H1 ms1 w a ⟨r1, r2⟩ => by
    cases b with
    | false =>
      show tu σ H1 Q
      exact r2 rfl L M σ H1 (hS.mono hA w) a Q fun c H2 ms2 w2 a2 r => q c H2 ms2 (w.trans w2) a2 r
    | true => exact q true H1 ms1 w a (r1 rfl)
theorem et_not {RB : Bool → List MD → Prop} (h : ET K tt ds ms fun b ms1 => RB (!b) ms1) : ET K (tNot tt) ds ms RB := fun L M σ H hS hA Q q =>
  h L M σ H hS hA _ fun b H1 ms1 w a r => q (!b) H1 ms1 w a r
theorem et_yes {RB : Bool → List MD → Prop} (h : RB true ms) : ET K tYes ds ms RB := fun L M σ H hS hA Q q => q true H ms (Wk.refl L H) hA h
theorem e_and (h : E K ta ds ms fun s ms1 => ∃ b, s = .d (.bool b) ∧ (b = true → E K tb ds ms1 R) ∧ (b = false → R (.d (.bool false)) ms1)) : E K (tAndV ta tb) ds ms R := fun L M σ H hS hA Q q =>
  h L M σ H hS hA _ fun s v H1 ms1 w o ⟨b, e, r1, r2⟩ => by
    subst e
    obtain ⟨a, z⟩ := o
    cases z
    refine ⟨b, rfl, ?_⟩
    cases b with
    | true =>
      show tb σ H1 Q
      exact r1 rfl L M σ H1 (hS.mono hA w) a Q fun s v H2 ms2 w2 o2 r => q s v H2 ms2 (w.trans w2) (o2.back a w) r
    | false => exact q (.d (.bool false)) _ H1 ms1 w ⟨a, .bl false⟩ (r2 rfl)
theorem e_or (h : E K ta ds ms fun s ms1 => ∃ b, s = .d (.bool b) ∧ (b = true → R (.d (.bool true)) ms1) ∧ (b = false → E K tb ds ms1 R)) : E K (tOrV ta tb) ds ms R := fun L M σ H hS hA Q q =>
  h L M σ H hS hA _ fun s v H1 ms1 w o ⟨b, e, r1, r2⟩ => by
    subst e
    obtain ⟨a, z⟩ := o
    cases z
    refine ⟨b, rfl, ?_⟩
    cases b with
    | false =>
      show tb σ H1 Q
      exact r2 rfl L M σ H1 (hS.mono hA w) a Q fun s v H2 ms2 w2 o2 r => q s v H2 ms2 (w.trans w2) (o2.back a w) r
    | true => exact q (.d (.bool true)) _ H1 ms1 w ⟨a, .bl true⟩ (r1 rfl)
theorem e_not (h : E K ta ds ms fun s ms1 => ∃ b, s = .d (.bool b) ∧ R (.d (.bool (!b))) ms1) : E K (tNotV ta) ds ms R := fun L M σ H hS hA Q q =>
  h L M σ H hS hA _ fun s v H1 ms1 w o ⟨b, e, r⟩ => by
    subst e
    obtain ⟨a, z⟩ := o
    cases z
    exact ⟨b, rfl, q (.d (.bool (!b))) _ H1 ms1 w ⟨a, .bl (!b)⟩ r⟩
theorem e_if (h : ET K tt ds ms fun b ms1 => (b = true → E K ta ds ms1 R) ∧ (b = false → E K tb ds ms1 R)) : E K (tIf tt ta tb) ds ms R := fun L M σ H hS hA Q q =>
  h L M σ H hS hA _ fun b H1 ms1 w a ⟨r1, r2⟩ => by
    cases b with
    | true =>
      show ta σ H1 Q
      exact r1 rfl L M σ H1 (hS.mono hA w) a Q fun s v H2 ms2 w2 o2 r => q s v H2 ms2 (w.trans w2) (o2.back a w) r
    | false =>
      show tb σ H1 Q
      exact r2 rfl L M σ H1 (hS.mono hA w) a Q fun s v H2 ms2 w2 o2 r => q s v H2 ms2 (w.trans w2) (o2.back a w) r
theorem e_chain {r r' : R2} (h : E K ta ds ms fun a ms1 => E K tb ds ms1 fun b ms2 => RR K r (dd a) (dd b) ms2 fun s ms3 => ∃ k, s = .d (.bool k) ∧ (k = true → E K tc ds ms3 fun c ms4 => ∀ b', b' = dd b → RR K r' b' (dd c) ms4 R) ∧ (k = false → R (.d (.bool false)) ms3)) :
    E K (tChain r r' ta tb tc) ds ms R := fun L M σ H hS hA Q q =>
  h L M σ H hS hA _ fun a x H1 ms1 w1 o1 h1 => h1 L M σ H1 (hS.mono hA w1) o1.at _ fun b y H2 ms2 w2 o2 h2 =>
    h2 L M H2 x y o2.at (o1.sl.mono o1.at w2) o2.sl _ fun s z H3 ms3 w3 o3 ⟨k, e, k1, k2⟩ => by
      subst e
      obtain ⟨a3, zz⟩ := o3
      cases zz
      refine ⟨k, rfl, ?_⟩
      have w13 := (w1.trans w2).trans w3
      cases k with
      | true =>
        show tc σ H3 _
        exact k1 rfl L M σ H3 (hS.mono hA w13) a3 _ fun c u H4 ms4 w4 o4 h4 => h4 _ rfl L M H4 y u o4.at ((o2.sl.mono o2.at w3).mono a3 w4) o4.sl Q fun s v H5 ms5 w5 o5 r5 => q s v H5 ms5 ((w13.trans w4).trans w5) (o5.back o4.at (w13.trans w4)) r5
      | false => exact q (.d (.bool false)) _ H3 ms3 w13 ⟨a3, .bl false⟩ (k2 rfl)
/-! ### more operations -/
theorem atI_of {M : List Addr} {H : Hp} {xs : List V} {es : List PyData} {i : Int} {d : PyData} (r : RpA M H xs es) (h : atI es i = some d) : ∃ v, atI xs i = some v ∧ Rp M H v d := by
  unfold atI at h ⊢
  rw [r.length]
  cases e : ixN es.length i with
  | none => rw [e] at h; cases h
  | some j =>
    rw [e] at h
    obtain ⟨v, e1, e2⟩ := r.get (show es[j]? = some d from h)
    exact ⟨v, e1, e2⟩
theorem rr_ixL {a b : SD} (h : ∃ es i d, Sv ms a (.list es) ∧ b = .d (.int i) ∧ atI es i = some d ∧ R (.d d) ms) : RR K (rIxL K) a b ms R := fun L M H x y hA ha hb Q q => by
  obtain ⟨es, i, d, sa, rfl, e, r⟩ := h
  cases hb
  obtain ⟨p, xs, rfl, hq, hr⟩ := sa.lst hA ha
  obtain ⟨v, e1, e2⟩ := atI_of hr e
  exact ⟨p, xs, i, v, rfl, rfl, hq, e1, q (.d d) v H ms (Wk.refl L H) ⟨hA, e2⟩ r⟩
theorem rr_ixT {a b : SD} (h : ∃ es i d, Sv ms a (.tuple es) ∧ b = .d (.int i) ∧ atI es i = some d ∧ R (.d d) ms) : RR K (rIxT K) a b ms R := fun L M H x y hA ha hb Q q => by
  obtain ⟨es, i, d, sa, rfl, e, r⟩ := h
  cases hb
  obtain ⟨p, xs, rfl, hq, hr⟩ := sa.tup ha
  obtain ⟨v, e1, e2⟩ := atI_of hr e
  exact ⟨p, xs, i, v, rfl, rfl, SqT.of hq, e1, q (.d d) v H ms (Wk.refl L H) ⟨hA, e2⟩ r⟩
theorem rr_isB {a b : SD} (h : ∃ i j, a = .d (.bool i) ∧ b = .d (.bool j) ∧ R (.d (.bool (decide (i = j)))) ms) : RR K rIsB a b ms R := fun L M H x y hA ha hb Q q => by
  obtain ⟨i, j, rfl, rfl, r⟩ := h
  cases ha; cases hb
  exact ⟨i, j, rfl, rfl, q (.d _) _ H ms (Wk.refl L H) ⟨hA, .bl _⟩ r⟩
theorem rr_notB {a b : SD} (h : ∃ i j, a = .d (.bool i) ∧ b = .d (.bool j) ∧ R (.d (.bool (!decide (i = j)))) ms) : RR K rNotB a b ms R := fun L M H x y hA ha hb Q q => by
  obtain ⟨i, j, rfl, rfl, r⟩ := h
  cases ha; cases hb
  exact ⟨i, j, rfl, rfl, q (.d _) _ H ms (Wk.refl L H) ⟨hA, .bl _⟩ r⟩
theorem cat_lst {M : List Addr} {H : Hp} {x : V} {es : List PyData} (h : Rp M H x (.list es)) : ∃ p xs, x = .ref p ∧ H p = some (.lst xs) ∧ RpA M H xs es := by
  cases h with
  | lst n e r => exact ⟨_, _, rfl, e, r⟩
theorem rr_cat {a b : SD} (h : ∃ es fs, a = .d (.list es) ∧ b = .d (.list fs) ∧ es.length + fs.length ≤ 10000 ∧ R (.f (es ++ fs)) ms) : RR K rCat a b ms R := fun L M H x y hA ha hb Q q => by
  obtain ⟨es, fs, rfl, rfl, hz, r⟩ := h
  obtain ⟨p, xs, rfl, e1, r1⟩ := cat_lst ha
  obtain ⟨p2, ys, rfl, e2, r2⟩ := cat_lst hb
  refine ⟨p, p2, xs, ys, rfl, rfl, e1, e2, by rw [r1.length, r2.length]; exact Nat.le_trans hz (by decide), fun l hl => ?_⟩
  exact q (.f (es ++ fs)) _ _ ms (Wk.new hl) (out_new hA (Wk.refl L H) hl (r1.append r2)) r
/-! ### built-ins -/
theorem rc_abs {as : List SD} (h : ∃ i, as = [.d (.int i)] ∧ R (.d (.int (if i < 0 then -i else i))) ms) : RC K (fun xs H Q => ∃ i, xs = [.int i] ∧ Q (.int (if i < 0 then -i else i)) H) as ms R := fun L M H vs hA ha Q q => by
  obtain ⟨i, rfl, r⟩ := h
  obtain ⟨v, t, rfl, hv, rfl⟩ := ha
  cases hv
  exact ⟨i, rfl, q (.d _) _ H ms (Wk.refl L H) ⟨hA, .int _⟩ r⟩
theorem rc_max {as : List SD} (h : ∃ i j, as = [.d (.int i), .d (.int j)] ∧ R (.d (.int (if j > i then j else i))) ms) : RC K (fun xs H Q => ∃ i j, xs = [.int i, .int j] ∧ Q (.int (if j > i then j else i)) H) as ms R := fun L M H vs hA ha Q q => by
  obtain ⟨i, j, rfl, r⟩ := h
  obtain ⟨v, t, rfl, hv, v2, t2, rfl, hv2, rfl⟩ := ha
  cases hv; cases hv2
  exact ⟨i, j, rfl, q (.d _) _ H ms (Wk.refl L H) ⟨hA, .int _⟩ r⟩
theorem rc_min {as : List SD} (h : ∃ i j, as = [.d (.int i), .d (.int j)] ∧ R (.d (.int (if j < i then j else i))) ms) : RC K (fun xs H Q => ∃ i j, xs = [.int i, .int j] ∧ Q (.int (if j < i then j else i)) H) as ms R := fun L M H vs hA ha Q q => by
  obtain ⟨i, j, rfl, r⟩ := h
  obtain ⟨v, t, rfl, hv, v2, t2, rfl, hv2, rfl⟩ := ha
  cases hv; cases hv2
  exact ⟨i, j, rfl, q (.d _) _ H ms (Wk.refl L H) ⟨hA, .int _⟩ r⟩
theorem rc_len {as : List SD} (h : ∃ s es, as = [s] ∧ (Sv ms s (.list es) ∨ Sv ms s (.tuple es)) ∧ R (.d (.int es.length)) ms) : RC K (fun xs H Q => ∃ p ys, xs = [.ref p] ∧ (SqL K H p ys ∨ SqT K H p ys) ∧ Q (.int ys.length) H) as ms R := fun L M H vs hA ha Q q => by
  obtain ⟨s, es, rfl, sv, r⟩ := h
  obtain ⟨v, t, rfl, hv, rfl⟩ := ha
  rcases sv with sv | sv
  · obtain ⟨p, xs, rfl, hq, hr⟩ := sv.lst hA hv
    rw [← hr.length] at r
    exact ⟨p, xs, rfl, .inl hq, q (.d _) _ H ms (Wk.refl L H) ⟨hA, .int _⟩ r⟩
  · obtain ⟨p, xs, rfl, hq, hr⟩ := sv.tup hv
    rw [← hr.length] at r
    exact ⟨p, xs, rfl, .inr (SqT.of hq), q (.d _) _ H ms (Wk.refl L H) ⟨hA, .int _⟩ r⟩
theorem rc_str {as : List SD} (h : ∃ i, as = [.d (.int i)] ∧ i.natAbs.log2 < 1920 ∧ R (.d (.str (toString i))) ms) : RC K (fun xs H Q => ∃ i : Int, xs = [.int i] ∧ i.natAbs.log2 < 1920 ∧ Q (.str (toString i)) H) as ms R := fun L M H vs hA ha Q q => by
  obtain ⟨i, rfl, hi, r⟩ := h
  obtain ⟨v, t, rfl, hv, rfl⟩ := ha
  cases hv
  exact ⟨i, rfl, hi, q (.d _) _ H ms (Wk.refl L H) ⟨hA, .str _⟩ r⟩
theorem rc_tuple {as : List SD} (h : ∃ s es, as = [s] ∧ (Sv ms s (.list es) ∨ Sv ms s (.tuple es)) ∧ R (.d (.tuple es)) ms) :
    RC K (fun xs H Q => ∃ p ys, xs = [.ref p] ∧ ((SqL K H p ys ∧ ∀ l, H l = none → Q (.ref l) (upd H l (.tup ys))) ∨ (SqT K H p ys ∧ Q (.ref p) H))) as ms R := fun L M H vs hA ha Q q => by
  obtain ⟨s, es, rfl, sv, r⟩ := h
  obtain ⟨v, t, rfl, hv, rfl⟩ := ha
  rcases sv with sv | sv
  · obtain ⟨p, xs, rfl, hq, hr⟩ := sv.lst hA hv
    refine ⟨p, xs, rfl, .inl ⟨hq, fun l hl => ?_⟩⟩
    exact q (.d (.tuple es)) _ _ ms (Wk.new hl) ⟨hA.new hl, .tup (hA.fresh hl) upd_same (RpA.to (hA.wk (Wk.new hl)) _ _ hr)⟩ r
  · have hv2 : Rp M H v (.tuple es) := by cases sv; exact hv
    obtain ⟨p, xs, rfl, hq, hr⟩ := sv.tup hv
    exact ⟨p, xs, rfl, .inr ⟨SqT.of hq, q (.d (.tuple es)) _ H ms (Wk.refl L H) ⟨hA, hv2⟩ r⟩⟩
theorem rc_list {as : List SD} (h : ∃ s es, as = [s] ∧ (Sv ms s (.list es) ∨ Sv ms s (.tuple es)) ∧ R (.f es) ms) :
    RC K (fun xs H Q => ∃ p ys, xs = [.ref p] ∧ (SqL K H p ys ∨ SqT K H p ys) ∧ ∀ l, H l = none → Q (.ref l) (upd H l (.lst ys))) as ms R := fun L M H vs hA ha Q q => by
  obtain ⟨s, es, rfl, sv, r⟩ := h
  obtain ⟨v, t, rfl, hv, rfl⟩ := ha
  rcases sv with sv | sv
  · obtain ⟨p, xs, rfl, hq, hr⟩ := sv.lst hA hv
    exact ⟨p, xs, rfl, .inl hq, fun l hl => q (.f es) _ _ ms (Wk.new hl) (out_new hA (Wk.refl L H) hl hr) r⟩
  · obtain ⟨p, xs, rfl, hq, hr⟩ := sv.tup hv
    exact ⟨p, xs, rfl, .inr (SqT.of hq), fun l hl => q (.f es) _ _ ms (Wk.new hl) (out_new hA (Wk.refl L H) hl hr) r⟩
theorem rc_all {as : List SD} (h : ∃ (s : SD) (bs : List Bool), as = [s] ∧ Sv ms s (.list (bs.map .bool)) ∧ R (.d (.bool (bs.all id))) ms) : RC K (rAll K) as ms R := fun L M H vs hA ha Q q => by
  obtain ⟨s, bs, rfl, sv, r⟩ := h
  obtain ⟨v, t, rfl, hv, rfl⟩ := ha
  obtain ⟨p, xs, rfl, hq, hr⟩ := sv.lst hA hv
  rw [RpA.bools_inv hr] at hq
  exact ⟨p, bs, rfl, hq, q (.d _) _ H ms (Wk.refl L H) ⟨hA, .bl _⟩ r⟩
/-- isinstance -/
def inst (d : PyData) (T : String) : Bool := (kitB (tyN d) T).getD false
theorem e_isi {T : String} (hT : ∀ d, kitB (tyN d) T = some (inst d T)) (h : E K te ds ms fun s ms1 => ∃ x, Sv ms1 (dd s) x ∧ (∀ ns, dd s ≠ .s ns) ∧ R (.d (.bool (inst x T))) ms1) : E K (tCB (rIsi K) (tCons te (tCons (tC (.ty T)) tNil))) ds ms R := fun L M σ H hS hA Q q =>
  h L M σ H hS hA _ fun s v H1 ms1 w o ⟨x, sv, hs, r⟩ => ⟨v, .ty T, .type (tyN x), .type T, inst x T, rfl, .ty T, sv.ty o.at o.sl hs, kit_ty (hT x), q (.d _) _ H1 ms1 w ⟨o.at, .bl _⟩ r⟩
theorem e_isiT {T U : String} (hT : ∀ d, kitB (tyN d) T = some (inst d T)) (hU : ∀ d, kitB (tyN d) U = some (inst d U)) (h : E K te ds ms fun s ms1 => ∃ x, Sv ms1 (dd s) x ∧ (∀ ns, dd s ≠ .s ns) ∧ R (.d (.bool (inst x T || inst x U))) ms1) :
    E K (tCB (rIsiT K) (tCons te (tCons (tTup (tCons (tC (.ty T)) (tCons (tC (.ty U)) tNil))) tNil))) ds ms R := fun L M σ H hS hA Q q =>
  h L M σ H hS hA _ fun s v H1 ms1 w o ⟨x, sv, hs, r⟩ => ⟨by show 2 ≤ sizeLine; decide, fun p hp => by
    have a1 := o.at
    have k1 : PySem.W.kitAny K (.type (tyN x)) [.type T, .type U] = some (inst x T || inst x U) := by
      refine kitAny_cons (kit_ty (hT x)) (fun hb => ?_) (fun hb => by rw [hb]; rfl)
      rw [hb, Bool.false_or]
      refine kitAny_cons (kit_ty (hU x)) (fun hb => ?_) (fun hb => hb)
      rw [hb]; rfl
    have ty : TyX K (upd H1 p (.tup [.ty T, .ty U])) v (.type (tyN x)) := sv.ty (a1.new hp) (o.sl.mono a1 (Wk.new hp)) hs
    exact ⟨v, p, [.ty T, .ty U], .type (tyN x), [.type T, .type U], inst x T || inst x U, rfl, upd_same, .cons (.ty T) (.cons (.ty U) .nil), ty, k1, q (.d _) _ _ ms1 (w.trans (Wk.new hp)) ⟨a1.new hp, .bl _⟩ r⟩⟩
/-! ### methods of lists that may change -/
theorem e_pop (h : E K ta ds ms fun s ms1 => ∃ k es d, s = .m k ∧ ms1[k]? = some (.l (es ++ [d])) ∧ R (.d d) (ms1.set k (.l es))) : E K (tBM0 K "list" rPop ta) ds ms R := fun L M σ H hS hA Q q =>
  h L M σ H hS hA _ fun s v H1 ms1 w o ⟨k, es, d, e, em, r⟩ => by
    subst e
    obtain ⟨a1, p, rfl, hp⟩ := o
    obtain ⟨xs, e1, r1⟩ := a1.get hp em
    have hpL : p ∈ L := List.mem_of_getElem? hp
    have hl : xs.length = es.length + 1 := by rw [r1.length]; simp
    obtain ⟨y, e2, r2⟩ := r1.get (i := es.length) (d := d) (by simp)
    refine ⟨.inl ⟨rfl, xs, SqL.of e1⟩, p, xs, y, rfl, rfl, e1, by rw [hl]; exact e2, ?_⟩
    have r3 : RpA M H1 xs.dropLast es := by
      have z := r1.take es.length
      rw [List.take_left] at z
      rw [List.dropLast_eq_take, hl]
      exact z
    exact q (.d d) y _ _ (w.trans (Wk.mut hpL)) ⟨a1.put hp r3, Rp.to (a1.wk (Wk.mut hpL)) _ _ r2⟩ r
theorem e_popAt0 (h : E K ta ds ms fun s ms1 => ∃ k es d, s = .m k ∧ ms1[k]? = some (.l (d :: es)) ∧ R (.d d) (ms1.set k (.l es))) : E K (tBM K "list" rPopAt ta (tCons (tC (.int 0)) tNil)) ds ms R := fun L M σ H hS hA Q q =>
  h L M σ H hS hA _ fun s v H1 ms1 w o ⟨k, es, d, e, em, r⟩ => by
    subst e
    obtain ⟨a1, p, rfl, hp⟩ := o
    obtain ⟨xs, e1, r1⟩ := a1.get hp em
    have hpL : p ∈ L := List.mem_of_getElem? hp
    cases r1 with
    | @cons y ys _ _ r2 r3 =>
      refine ⟨.inl ⟨rfl, _, SqL.of e1⟩, p, y :: ys, 0, 0, y, rfl, rfl, e1, by decide, by decide, ?_, rfl, ?_⟩
      · unfold seqIndex?
        simp
      · exact q (.d d) y _ _ (w.trans (Wk.mut hpL)) ⟨a1.put hp r3, Rp.to (a1.wk (Wk.mut hpL)) _ _ r2⟩ r
theorem e_append (h : E K ta ds ms fun s ms1 => ∃ k, s = .m k ∧ E K te ds ms1 fun x ms2 => ∃ d es, dd x = .d d ∧ ms2[k]? = some (.l es) ∧ es.length < 10000 ∧ R (.d .none) (ms2.set k (.l (es ++ [d])))) : E K (tBM K "list" rAppend ta (tCons te tNil)) ds ms R := fun L M σ H hS hA Q q =>
  h L M σ H hS hA _ fun s v H1 ms1 w o ⟨k, e, h2⟩ => by
    subst e
    obtain ⟨a1, p, rfl, hp⟩ := o
    have hpL : p ∈ L := List.mem_of_getElem? hp
    have hk : k < ms1.length := by rw [← a1.ln]; exact (List.getElem?_eq_some_iff.mp hp).1
    cases hm : ms1[k] with
    | l es0 =>
      obtain ⟨xs0, e0, _⟩ := a1.get hp (es := es0) (by rw [List.getElem?_eq_getElem hk, hm])
      refine ⟨.inl ⟨rfl, xs0, SqL.of e0⟩, ?_⟩
      refine h2 L M σ H1 (hS.mono hA w) a1 _ fun x y H2 ms2 w2 o2 ⟨d, es, ed, em, hz, r⟩ => ?_
      have a2 := o2.at
      have ry := o2.sl
      rw [ed] at ry
      obtain ⟨xs, e1, r1⟩ := a2.get hp em
      refine ⟨p, xs, y, rfl, rfl, e1, by rw [r1.length]; exact Nat.lt_trans hz (by decide), ?_⟩
      exact q (.d .none) .non _ _ ((w.trans w2).trans (Wk.mut hpL)) ⟨a2.put hp (r1.append (.cons ry .nil)), .non⟩ r
theorem e_rev (h : E K ta ds ms fun s ms1 => ∃ es, Sv ms1 (dd s) (.list es) ∧ R (.f es.reverse) ms1) : E K (tRevL K ta) ds ms R := fun L M σ H hS hA Q q =>
  h L M σ H hS hA _ fun s v H1 ms1 w o ⟨es, sv, r⟩ => by
    have a1 := o.at
    obtain ⟨p, xs, rfl, hq, hr⟩ := sv.lst a1 o.sl
    exact ⟨p, xs, rfl, hq, fun l hl => q (.f es.reverse) _ _ ms1 (w.trans (Wk.new hl)) (out_new a1 w hl hr.reverse) r⟩
/-! ### calls of the program's own defs -/
abbrev Ph := List SD → List MD → RS → Prop
def SpD (K : PySem.W.Frag) (Φ : Ph) : Sp := fun vs H Q _ => ∃ L M ms as R, At L M ms H ∧ SlsOk K L M H as vs ∧ Φ as ms R ∧ ∀ s v H' ms', Wk L H H' → Out K L M H H' ms' v s → R s ms' → Q v H'
theorem e_call {Φ : Ph} {E0 : XK} (h : EA K tA ds ms fun as ms1 => Φ as ms1 R) : E K (tCall (SpD K Φ) [] E0 tA) ds ms R := fun L M σ H hS hA Q q =>
  h L M σ H hS hA _ fun as vs H1 ms1 w1 a1 o1 h1 => by
    rw [List.append_nil]
    exact ⟨L, M, ms1, as, R, a1, o1, h1, fun s v H3 ms3 w3 o3 r3 => q s v H3 ms3 (w1.trans w3) (o3.back a1 w1) r3⟩
/-! ### statements -/
structure Po where
  nx : List SD → List MD → Prop
  rt : RS
  bk : List SD → List MD → Prop
  ct : List SD → List MD → Prop
def Nx (K : PySem.W.Frag) (L M : List Addr) (H : Hp) (N : List SD → List MD → Prop) (C : L2.St → Hp → Prop) : Prop := ∀ σ' H' ds' ms', Wk L H H' → Sl K L M σ' H' ds' → At L M ms' H' → N ds' ms' → C σ' H'
def Rx (K : PySem.W.Frag) (L M : List Addr) (H : Hp) (R : RS) (Q : VK) : Prop := ∀ s v H' ms', Wk L H H' → Out K L M H H' ms' v s → R s ms' → Q v H'
def S (K : PySem.W.Frag) (t : TS) (ds : List SD) (ms : List MD) (P : Po) : Prop :=
  ∀ (L M : List Addr) (σ : L2.St) (H : Hp), Sl K L M σ H ds → At L M ms H → ∀ D : Ends, Nx K L M H P.nx D.nx → Rx K L M H P.rt D.rt → Nx K L M H P.bk D.bk → Nx K L M H P.ct D.ct → t D σ H
section
variable {L M : List Addr} {H H1 : Hp} {N : List SD → List MD → Prop} {C : L2.St → Hp → Prop} {Q : VK} {ms1 : List MD}
theorem Nx.on (w : Wk L H H1) (h : Nx K L M H N C) : Nx K L M H1 N C := fun σ' H' ds' ms' w2 => h σ' H' ds' ms' (w.trans w2)
theorem Rx.on (a : At L M ms1 H1) (w : Wk L H H1) (h : Rx K L M H R Q) : Rx K L M H1 R Q := fun s v H' ms' w2 o r => h s v H' ms' (w.trans w2) (o.back a w) r
end
variable {t u : TS} {P : Po}
theorem s_next (h : P.nx ds ms) : S K tNext ds ms P := fun L M σ H hS hA D n _ _ _ => n σ H ds ms (Wk.refl L H) hS hA h
theorem s_brk (h : P.bk ds ms) : S K tBreak ds ms P := fun L M σ H hS hA D _ _ n _ => n σ H ds ms (Wk.refl L H) hS hA h
theorem s_cont (h : P.ct ds ms) : S K tCont ds ms P := fun L M σ H hS hA D _ _ _ n => n σ H ds ms (Wk.refl L H) hS hA h
theorem s_seq (h : S K t ds ms { P with nx := fun ds1 ms1 => S K u ds1 ms1 P }) : S K (tSeq t u) ds ms P := fun L M σ H hS hA D n r b c =>
  h L M σ H hS hA { D with nx := u D } (fun σ1 H1 ds1 ms1 w s1 a1 h1 => h1 L M σ1 H1 s1 a1 D (n.on w) (r.on a1 w) (b.on w) (c.on w)) r b c
theorem s_asg {i : Nat} (h : E K te ds ms fun s ms1 => P.nx (ds.set i (dd s)) ms1) : S K (tAsg te (gName i)) ds ms P := fun L M σ H hS hA D n r b c =>
  h L M σ H hS hA _ fun s v H1 ms1 w o h1 => n _ H1 _ ms1 w ((hS.mono hA w).set i o.sl) o.at h1
theorem s_ret (h : E K te ds ms P.rt) : S K (tRet te) ds ms P := fun L M σ H hS hA D n r b c => h L M σ H hS hA _ fun s v H1 ms1 w o h1 => r s v H1 ms1 w o h1
theorem s_drop (h : E K te ds ms fun _ ms1 => P.nx ds ms1) : S K (tDrop te) ds ms P := fun L M σ H hS hA D n r b c =>
  h L M σ H hS hA _ fun s v H1 ms1 w o h1 => n σ H1 ds ms1 w (hS.mono hA w) o.at h1
theorem s_if (h : ET K tt ds ms fun b ms1 => (b = true → S K t ds ms1 P) ∧ (b = false → S K u ds ms1 P)) : S K (tIfS tt t u) ds ms P := fun L M σ H hS hA D n r b c =>
  h L M σ H hS hA _ fun k H1 ms1 w a ⟨h1, h2⟩ => by
    cases k with
    | true => exact h1 rfl L M σ H1 (hS.mono hA w) a D (n.on w) (r.on a w) (b.on w) (c.on w)
    | false => exact h2 rfl L M σ H1 (hS.mono hA w) a D (n.on w) (r.on a w) (b.on w) (c.on w)
theorem s_par {i j : Nat} (h : EA K tA ds ms fun as ms1 => ∃ x y, as = [x, y] ∧ P.nx ((ds.set i x).set j y) ms1) : S K (tPar i j tA) ds ms P := fun L M σ H hS hA D n r b c =>
  h L M σ H hS hA _ fun as vs H1 ms1 w a o ⟨x, y, e, h1⟩ => by
    subst e
    obtain ⟨v1, t1, rfl, o1, v2, t2, rfl, o2, rfl⟩ := o
    exact ⟨v1, v2, rfl, n _ H1 _ ms1 w (((hS.mono hA w).set i o1).set j o2) a h1⟩
/-- targets: js the slots that are stored -/
def EG (K : PySem.W.Frag) (g : TG) (js : List Nat) (x : SD) (ds : List SD) (ms : List MD) (N : List SD → List MD → Prop) : Prop :=
  ∀ (L M : List Addr) (σ : L2.St) (H : Hp) (v : V), Sl K L M σ H ds → At L M ms H → SlOk K L M H x v → ∀ C : L2.St → Hp → Prop, (∀ σ' ds', Sl K L M σ' H ds' → (∀ vs : List Nat, (∀ j ∈ js, j ∈ vs) → L2.wipe σ' vs = L2.wipe σ vs) → N ds' ms → C σ' H) → g v σ H C
def EGs (K : PySem.W.Frag) (g : TGs) (js : List Nat) (xs : List PyData) (ds : List SD) (ms : List MD) (N : List SD → List MD → Prop) : Prop :=
  ∀ (L M : List Addr) (σ : L2.St) (H : Hp) (vs : List V), Sl K L M σ H ds → At L M ms H → RpA M H vs xs → ∀ C : L2.St → Hp → Prop, (∀ σ' ds', Sl K L M σ' H ds' → (∀ vs : List Nat, (∀ j ∈ js, j ∈ vs) → L2.wipe σ' vs = L2.wipe σ vs) → N ds' ms → C σ' H) → g vs σ H C
theorem wipe_get (σ : L2.St) (i : Nat) : ∀ vs : List Nat, (L2.wipe σ vs)[i]? = if i ∈ vs then (if i < σ.length then some none else none) else σ[i]?
  | [] => by simp [L2.wipe]
  | v :: vs => by
    unfold L2.wipe
    by_cases e : v = i
    · subst e
      rw [List.getElem?_set, if_pos rfl, if_pos List.mem_cons_self, wipe_length]
    · rw [List.getElem?_set_ne e, wipe_get σ i vs]
      by_cases h : i ∈ vs
      · rw [if_pos h, if_pos (List.mem_cons_of_mem _ h)]
      · rw [if_neg h, if_neg (fun z => (List.mem_cons.mp z).elim (fun z => e z.symm) h)]
theorem wipe_set (σ : L2.St) (j : Nat) (o : Option V) (vs : List Nat) (h : j ∈ vs) : L2.wipe (σ.set j o) vs = L2.wipe σ vs := by
  apply List.ext_getElem?
  intro i
  rw [wipe_get, wipe_get, List.length_set]
  by_cases e : i ∈ vs
  · rw [if_pos e, if_pos e]
  · rw [if_neg e, if_neg e, List.getElem?_set_ne (fun z : j = i => e (by rw [← z]; exact h))]
variable {N : List SD → List MD → Prop}
theorem eg_name {i : Nat} {x : SD} (h : N (ds.set i x) ms) : EG K (gName i) [i] x ds ms N := fun L M σ H v hS hA ho C c =>
  c _ _ (hS.set i ho) (fun vs hv => wipe_set σ i (some v) vs (hv i (by simp))) h
theorem egs_nil (h : N ds ms) : EGs K gNil [] [] ds ms N := fun L M σ H vs hS hA hr C c => by
  cases hr
  exact ⟨rfl, c σ ds hS (fun _ _ => rfl) h⟩
theorem egs_cons {g : TG} {gs : TGs} {js js' : List Nat} {x : PyData} {xs : List PyData} (h : EG K g js (.d x) ds ms fun ds1 ms1 => EGs K gs js' xs ds1 ms1 N) : EGs K (gCons g gs) (js ++ js') (x :: xs) ds ms N := fun L M σ H vs hS hA hr C c => by
  cases hr with
  | @cons v r _ _ r1 r2 =>
    refine ⟨v, r, rfl, ?_⟩
    refine h L M σ H v hS hA r1 _ fun σ1 ds1 s1 w1 h1 => ?_
    refine h1 L M σ1 H r s1 hA r2 C fun σ2 ds2 s2 w2 h2 => ?_
    exact c σ2 ds2 s2 (fun vs hv => (w2 vs fun j hj => hv j (List.mem_append_right _ hj)).trans (w1 vs fun j hj => hv j (List.mem_append_left _ hj))) h2
theorem eg_tup {gs : TGs} {js : List Nat} {n : Nat} {xs : List PyData} (hn : xs.length = n) (h : EGs K gs js xs ds ms N) : EG K (gTup K n gs) js (.d (.tuple xs)) ds ms N := fun L M σ H v hS hA ho C c => by
  obtain ⟨a, ys, rfl, e, r⟩ := Sv.tup (ms := ms) (K := K) (L := L) (.d (.tuple xs)) ho
  exact ⟨a, ys, rfl, SqT.of e, by rw [r.length]; exact hn, h L M σ H ys hS hA r C c⟩
theorem s_asgG {g : TG} {js : List Nat} (h : E K te ds ms fun s ms1 => EG K g js (dd s) ds ms1 P.nx) : S K (tAsg te g) ds ms P := fun L M σ H hS hA D n r b c =>
  h L M σ H hS hA _ fun s v H1 ms1 w o h1 => h1 L M σ H1 v (hS.mono hA w) o.at o.sl _ fun σ' ds' s' _ h2 => n σ' H1 ds' ms1 w s' o.at h2
/-- a list unpacked -/
theorem s_asgL {gs : TGs} {js : List Nat} {n : Nat} (h : E K te ds ms fun s ms1 => ∃ xs, Sv ms1 (dd s) (.list xs) ∧ xs.length = n ∧ EGs K gs js xs ds ms1 P.nx) : S K (tAsg te (gLst K n gs)) ds ms P := fun L M σ H hS hA D nn r b c =>
  h L M σ H hS hA _ fun s v H1 ms1 w o ⟨xs, sv, hn, h1⟩ => by
    have a1 := o.at
    obtain ⟨a, ys, rfl, e, r⟩ := sv.lst a1 o.sl
    exact ⟨a, ys, rfl, e, by rw [r.length]; exact hn, h1 L M σ H1 ys (hS.mono hA w) a1 r _ fun σ' ds' s' _ h2 => nn σ' H1 ds' ms1 w s' a1 h2⟩
/-- xs[i] = e, of a list that may change -/
theorem s_setL {to ti : TE} (h : E K te ds ms fun x ms1 => ∃ d, dd x = .d d ∧ E K to ds ms1 fun s ms2 => ∃ k, s = .m k ∧ E K ti ds ms2 fun y ms3 => ∃ (i : Int) (j : Nat) (es : List PyData), y = .d (.int i) ∧ ms3[k]? = some (.l es) ∧ ixN es.length i = some j ∧ P.nx ds (ms3.set k (.l (es.set j d)))) :
    S K (tAsg te (gSub to ti rSetL)) ds ms P := fun L M σ H hS hA D n r b c =>
  h L M σ H hS hA _ fun x v H1 ms1 w1 o1 ⟨d, ed, h1⟩ => h1 L M σ H1 (hS.mono hA w1) o1.at _ fun s v2 H2 ms2 w2 o2 ⟨k, ek, h2⟩ =>
    h2 L M σ H2 ((hS.mono hA w1).mono o1.at w2) o2.at _ fun y v3 H3 ms3 w3 o3 ⟨i, j, es, ey, em, hj, h3⟩ => by
      have rv := (o1.sl.mono o1.at w2).mono o2.at w3
      rw [ed] at rv
      have a3 := o3.at
      subst ey ek
      obtain ⟨_, p, rfl, hp⟩ := o2
      obtain ⟨_, z⟩ := o3
      cases z
      have hpL : p ∈ L := List.mem_of_getElem? hp
      obtain ⟨xs, e1, r1⟩ := a3.get hp em
      refine ⟨p, xs, i, j, rfl, rfl, e1, by rw [r1.length]; exact hj, ?_⟩
      have w13 := ((w1.trans w2).trans w3).trans (Wk.mut (H := H3) (o := .lst (xs.set j v)) hpL)
      exact n σ _ ds _ w13 (hS.mono hA w13) (a3.put hp (r1.set j rv)) h3
/-! ### loops -/
section
variable {L M : List Addr} {H H1 : Hp}
/-- a source that stands still -/
inductive Sw : SD → List PyData → Prop
  | d (es : List PyData) : Sw (.d (.list es)) es
  | s (ns : List Int) : Sw (.s ns) (ns.map .int)
theorem Sw.is {s : SD} {es : List PyData} {v : V} (h : Sw s es) (hA : At L M ms H) (o : SlOk K L M H s v) : ∃ a xs, v = .ref a ∧ RpA M H xs es ∧ ∀ H', Wk L H H' → SqL K H' a xs := by
  cases h with
  | d =>
    cases o with
    | @lst a xs _ n e r => exact ⟨a, xs, rfl, r, fun H' w => SqL.of (w a _ (fun z => n (hA.sub a z)) e)⟩
  | s ns =>
    obtain ⟨a, rfl, ⟨n, q⟩ | q⟩ := o
    · refine ⟨a, _, rfl, RpA.ints ns, fun H' w => ?_⟩
      have n' : a ∉ L := fun z => n (hA.sub a z)
      rcases q with q | ⟨o, q⟩
      · exact .inl (.inl (w _ _ n' q))
      · exact .inl (.inr ⟨o, w _ _ n' q⟩)
    · exact ⟨a, _, rfl, RpA.ints ns, fun H' _ => q H'⟩
end
theorem s_forL {g : TG} {js : List Nat} (h : E K tl ds ms fun s ms0 => ∃ es, Sw (dd s) es ∧ ∃ Pv : Nat → List SD → List MD → Prop, Pv 0 ds ms0 ∧
      (∀ i e ds1 ms1, es[i]? = some e → Pv i ds1 ms1 → EG K g js (.d e) ds1 ms1 fun ds2 ms2 => S K t ds2 ms2 { P with nx := Pv (i + 1), ct := Pv (i + 1), bk := P.nx }) ∧ ∀ ds1 ms1, Pv es.length ds1 ms1 → P.nx ds1 ms1) :
    S K (tFor (iList K tl) g t) ds ms P := fun L M σ H hS hA D n r b c =>
  h L M σ H hS hA _ fun s v H1 ms0 w o ⟨es, sw, Pv, h0, hs, hd⟩ => by
    have a1 := o.at
    obtain ⟨a, xs, rfl, rx, hx⟩ := sw.is a1 o.sl
    refine ⟨a, rfl, ⟨xs, hx H1 (Wk.refl L H1)⟩, for_list (xs := xs) (fun i σ' H' => ∃ ds' ms', Wk L H1 H' ∧ Sl K L M σ' H' ds' ∧ At L M ms' H' ∧ Pv i ds' ms') ⟨ds, ms0, Wk.refl L H1, hS.mono hA w, a1, h0⟩ (fun i σ' H' _ ⟨_, _, w', _⟩ => hx H' w') (fun i x σ' H' hi ⟨ds', ms', w', s', a', p'⟩ => ?_) (fun σ' H' ⟨ds', ms', w', s', a', p'⟩ => ?_)⟩
    · obtain ⟨e, e1, e2⟩ := rx.get' hi
      refine hs i e ds' ms' e1 p' L M σ' H' x s' a' (Rp.to (a1.wk w') _ _ e2) _ fun σ2 ds2 s2 _ h2 => ?_
      refine h2 L M σ2 H' s2 a' _ (fun σ3 H3 ds3 ms3 w3 s3 a3 p3 => ⟨ds3, ms3, w'.trans w3, s3, a3, p3⟩) (r.on a' (w.trans w')) (n.on (w.trans w')) (fun σ3 H3 ds3 ms3 w3 s3 a3 p3 => ⟨ds3, ms3, w'.trans w3, s3, a3, p3⟩)
    · rw [rx.length] at p'
      exact n σ' H' ds' ms' (w.trans w') s' a' (hd ds' ms' p')
theorem s_forT {g : TG} {js : List Nat} (h : E K tl ds ms fun s ms0 => ∃ es, s = .d (.tuple es) ∧ ∃ Pv : Nat → List SD → List MD → Prop, Pv 0 ds ms0 ∧
      (∀ i e ds1 ms1, es[i]? = some e → Pv i ds1 ms1 → EG K g js (.d e) ds1 ms1 fun ds2 ms2 => S K t ds2 ms2 { P with nx := Pv (i + 1), ct := Pv (i + 1), bk := P.nx }) ∧ ∀ ds1 ms1, Pv es.length ds1 ms1 → P.nx ds1 ms1) :
    S K (tFor (iTup K tl) g t) ds ms P := fun L M σ H hS hA D n r b c =>
  h L M σ H hS hA _ fun s v H1 ms0 w o ⟨es, es', Pv, h0, hs, hd⟩ => by
    subst es'
    obtain ⟨a1, z⟩ := o
    cases z with
    | @tup a xs _ na e rx =>
    have hx : ∀ H', Wk L H1 H' → SqT K H' a xs := fun H' w' => SqT.of (w' a _ (fun z => na (a1.sub a z)) e)
    refine ⟨a, rfl, ⟨xs, hx H1 (Wk.refl L H1)⟩, for_tup (xs := xs) (fun i σ' H' => ∃ ds' ms', Wk L H1 H' ∧ Sl K L M σ' H' ds' ∧ At L M ms' H' ∧ Pv i ds' ms') ⟨ds, ms0, Wk.refl L H1, hS.mono hA w, a1, h0⟩ (fun i σ' H' _ ⟨_, _, w', _⟩ => hx H' w') (fun i x σ' H' hi ⟨ds', ms', w', s', a', p'⟩ => ?_) (fun σ' H' ⟨ds', ms', w', s', a', p'⟩ => ?_)⟩
    · obtain ⟨e, e1, e2⟩ := rx.get' hi
      refine hs i e ds' ms' e1 p' L M σ' H' x s' a' (Rp.to (a1.wk w') _ _ e2) _ fun σ2 ds2 s2 _ h2 => ?_
      refine h2 L M σ2 H' s2 a' _ (fun σ3 H3 ds3 ms3 w3 s3 a3 p3 => ⟨ds3, ms3, w'.trans w3, s3, a3, p3⟩) (r.on a' (w.trans w')) (n.on (w.trans w')) (fun σ3 H3 ds3 ms3 w3 s3 a3 p3 => ⟨ds3, ms3, w'.trans w3, s3, a3, p3⟩)
    · rw [rx.length] at p'
      exact n σ' H' ds' ms' (w.trans w') s' a' (hd ds' ms' p')
theorem s_forR {g : TG} {js : List Nat} (h : EA K tA ds ms fun as ms0 => ∃ n : Int, as = [.d (.int n)] ∧ (-(2 ^ 62) ≤ n ∧ n < 2 ^ 62) ∧ ∃ Pv : Nat → List SD → List MD → Prop, Pv 0 ds ms0 ∧
      (∀ i ds1 ms1, i < n.toNat → Pv i ds1 ms1 → EG K g js (.d (.int i)) ds1 ms1 fun ds2 ms2 => S K t ds2 ms2 { P with nx := Pv (i + 1), ct := Pv (i + 1), bk := P.nx }) ∧ ∀ ds1 ms1, Pv n.toNat ds1 ms1 → P.nx ds1 ms1) :
    S K (tFor (iRng1 tA) g t) ds ms P := fun L M σ H hS hA D n r b c =>
  h L M σ H hS hA _ fun as vs H1 ms0 w a1 o ⟨m, ea, hm, Pv, h0, hs, hd⟩ => by
    subst ea
    obtain ⟨v, t1, rfl, hv, rfl⟩ := o
    cases hv
    refine ⟨m, rfl, hm.1, hm.2, for_range (fun i σ' H' => ∃ ds' ms', Wk L H1 H' ∧ Sl K L M σ' H' ds' ∧ At L M ms' H' ∧ Pv i ds' ms') ⟨ds, ms0, Wk.refl L H1, hS.mono hA w, a1, h0⟩ (fun i σ' H' hi ⟨ds', ms', w', s', a', p'⟩ => ?_) (fun σ' H' ⟨ds', ms', w', s', a', p'⟩ => ?_)⟩
    · refine hs i ds' ms' hi p' L M σ' H' _ s' a' (by show Rp M H' (.int (0 + (i : Int))) (.int i); rw [Int.zero_add]; exact .int _) _ fun σ2 ds2 s2 _ h2 => ?_
      refine h2 L M σ2 H' s2 a' _ (fun σ3 H3 ds3 ms3 w3 s3 a3 p3 => ⟨ds3, ms3, w'.trans w3, s3, a3, p3⟩) (r.on a' (w.trans w')) (n.on (w.trans w')) (fun σ3 H3 ds3 ms3 w3 s3 a3 p3 => ⟨ds3, ms3, w'.trans w3, s3, a3, p3⟩)
    · exact n σ' H' ds' ms' (w.trans w') s' a' (hd ds' ms' p')
theorem s_forR2 {g : TG} {js : List Nat} (h : EA K tA ds ms fun as ms0 => ∃ lo n : Int, as = [.d (.int lo), .d (.int n)] ∧ (-(2 ^ 62) ≤ lo ∧ lo < 2 ^ 62 ∧ -(2 ^ 62) ≤ n ∧ n < 2 ^ 62) ∧ ∃ Pv : Nat → List SD → List MD → Prop, Pv 0 ds ms0 ∧
      (∀ i ds1 ms1, i < (n - lo).toNat → Pv i ds1 ms1 → EG K g js (.d (.int (lo + i))) ds1 ms1 fun ds2 ms2 => S K t ds2 ms2 { P with nx := Pv (i + 1), ct := Pv (i + 1), bk := P.nx }) ∧ ∀ ds1 ms1, Pv (n - lo).toNat ds1 ms1 → P.nx ds1 ms1) :
    S K (tFor (iRng2 tA) g t) ds ms P := fun L M σ H hS hA D n r b c =>
  h L M σ H hS hA _ fun as vs H1 ms0 w a1 o ⟨lo, m, ea, hm, Pv, h0, hs, hd⟩ => by
    subst ea
    obtain ⟨v, t1, rfl, hv, v2, t2, rfl, hv2, rfl⟩ := o
    cases hv; cases hv2
    refine ⟨lo, m, rfl, hm, for_range (lo := lo) (fun i σ' H' => ∃ ds' ms', Wk L H1 H' ∧ Sl K L M σ' H' ds' ∧ At L M ms' H' ∧ Pv i ds' ms') ⟨ds, ms0, Wk.refl L H1, hS.mono hA w, a1, h0⟩ (fun i σ' H' hi ⟨ds', ms', w', s', a', p'⟩ => ?_) (fun σ' H' ⟨ds', ms', w', s', a', p'⟩ => ?_)⟩
    · refine hs i ds' ms' hi p' L M σ' H' _ s' a' (.int _) _ fun σ2 ds2 s2 _ h2 => ?_
      refine h2 L M σ2 H' s2 a' _ (fun σ3 H3 ds3 ms3 w3 s3 a3 p3 => ⟨ds3, ms3, w'.trans w3, s3, a3, p3⟩) (r.on a' (w.trans w')) (n.on (w.trans w')) (fun σ3 H3 ds3 ms3 w3 s3 a3 p3 => ⟨ds3, ms3, w'.trans w3, s3, a3, p3⟩)
    · exact n σ' H' ds' ms' (w.trans w') s' a' (hd ds' ms' p')
theorem s_while (W : Nat → List SD → List MD → Prop) (m0 : Nat) (h0 : W m0 ds ms) (hs : ∀ m ds1 ms1, W m ds1 ms1 → ET K tt ds1 ms1 fun b ms2 => (b = true → S K t ds1 ms2 { P with nx := fun ds3 ms3 => ∃ m', m' < m ∧ W m' ds3 ms3, ct := fun ds3 ms3 => ∃ m', m' < m ∧ W m' ds3 ms3, bk := P.nx }) ∧ (b = false → P.nx ds1 ms2)) :
    S K (tWhile tt t) ds ms P := fun L M σ H hS hA D n r b c => by
  refine ⟨fun m σ' H' => ∃ ds' ms', Wk L H H' ∧ Sl K L M σ' H' ds' ∧ At L M ms' H' ∧ W m ds' ms', ⟨m0, ds, ms, Wk.refl L H, hS, hA, h0⟩, ?_⟩
  rintro m σ' H' ⟨ds', ms', w', s', a', p'⟩
  refine hs m ds' ms' p' L M σ' H' s' a' _ fun k H2 ms2 w2 a2 ⟨k1, k2⟩ => ?_
  cases k with
  | true =>
    rw [if_pos rfl]
    refine ⟨fun σ3 H3 => ∃ m', m' < m ∧ ∃ ds3 ms3, Wk L H H3 ∧ Sl K L M σ3 H3 ds3 ∧ At L M ms3 H3 ∧ W m' ds3 ms3, fun σ3 H3 ⟨m', l, z⟩ => ⟨m', l, z⟩, ?_⟩
    refine k1 rfl L M σ' H2 (s'.mono a' w2) a2 _ (fun σ3 H3 ds3 ms3 w3 s3 a3 ⟨m', l, p3⟩ => ⟨m', l, ds3, ms3, (w'.trans w2).trans w3, s3, a3, p3⟩) (r.on a2 (w'.trans w2)) (n.on (w'.trans w2)) (fun σ3 H3 ds3 ms3 w3 s3 a3 ⟨m', l, p3⟩ => ⟨m', l, ds3, ms3, (w'.trans w2).trans w3, s3, a3, p3⟩)
  | false =>
    rw [if_neg Bool.false_ne_true]
    exact n σ' H2 ds' ms2 (w'.trans w2) (s'.mono a' w2) a2 (k2 rfl)
/-! ### comprehensions -/
def Lt (K : PySem.W.Frag) (g : TG) (js : List Nat) (tt : TT) (te : TE) (vs : List Nat) (ds : List SD) (x : SD) (ms : List MD) (acc : List PyData) (N : List PyData → List MD → Prop) : Prop :=
  EG K g js x (wipeD ds vs) ms fun ds2 ms2 => ET K tt ds2 ms2 fun b ms3 => (b = true → E K te ds2 ms3 fun s ms4 => ∃ d, dd s = .d d ∧ N (acc ++ [d]) ms4) ∧ (b = false → N acc ms3)
section
variable {L M : List Addr} {σ : L2.St} {H1 H' : Hp}
/-- how it stands within a comprehension whose list is at D -/
structure Cs (L M : List Addr) (H1 : Hp) (D : Addr) (i : Nat) (acc : List PyData) (ms : List MD) (H : Hp) : Prop where
  w : Wk L H1 H
  a : At L (M ++ [D]) ms H
  le : acc.length ≤ i
  d : ∃ xs, H D = some (.lst xs) ∧ RpA (M ++ [D]) H xs acc
theorem lock_new {D : Addr} {o : HO} (h : At L M ms H1) (hD : H1 D = none) : At L (M ++ [D]) ms (upd H1 D o) := by
  have a := h.new (o := o) hD
  have t : To M (M ++ [D]) H1 (upd H1 D o) := to_new h hD (Wk.new hD)
  refine ⟨a.nd, fun p hp => List.mem_append_left _ (h.sub p hp), fun p hp => ?_, a.ln, fun k p m e1 e2 => ?_⟩
  · rcases List.mem_append.mp hp with z | z
    · exact a.al p z
    · simp at z; subst z; rw [upd_same]; exact fun z => nomatch z
  · exact (h.ok k p m e1 e2).to t (upd_ne (fun z => h.freshL hD (z ▸ List.mem_of_getElem? e1)))
theorem Cs.start {D : Addr} (h : At L M ms H1) (hD : H1 D = none) : Cs L M H1 D 0 [] ms (upd H1 D (.lst [])) := ⟨Wk.new hD, lock_new h hD, Nat.le_refl _, [], upd_same, .nil⟩
theorem Cs.done {D : Addr} {i : Nat} {acc : List PyData} {ms1 : List MD} {H2 : Hp} (h : Cs L M H1 D i acc ms1 H2) (hs : ∀ p ∈ L, p ∈ M) (hD : D ∉ L) : At (L ++ [D]) (M ++ [D]) (ms1 ++ [.l acc]) H2 := by
  obtain ⟨w, a, _, xs, e, r⟩ := h
  refine ⟨List.nodup_append.mpr ⟨a.nd, by simp, fun x hx y hy z => hD (by simp at hy; subst hy z; exact hx)⟩, fun q hq => ?_, a.al, by simp [a.ln], fun k q m e1 e2 => ?_⟩
  · rcases List.mem_append.mp hq with z | z
    · exact a.sub q z
    · exact List.mem_append_right _ z
  · by_cases hk : k < L.length
    · rw [List.getElem?_append_left hk] at e1
      rw [List.getElem?_append_left (by rw [← a.ln]; exact hk)] at e2
      exact a.ok k q m e1 e2
    · have hk2 : k = L.length := by
        have := (List.getElem?_eq_some_iff.mp e1).1
        simp at this
        omega
      subst hk2
      simp at e1
      subst e1
      rw [a.ln] at e2
      simp at e2
      subst e2
      exact ⟨xs, e, r⟩
theorem lc_turn {g : TG} {js : List Nat} {vs : List Nat} {D : Addr} {i : Nat} {acc : List PyData} {ms0 ms1 : List MD} {H2 : Hp} {x : SD} {v : V} {Nn : Nat → List PyData → List MD → Prop} (hj : ∀ j ∈ js, j ∈ vs) (hi : i < 10000)
    (hS : Sl K L M σ H1 ds) (a0 : At L M ms0 H1) (hD : H1 D = none) (c : Cs L M H1 D i acc ms1 H2) (ho : SlOk K L M H1 x v) (h : Lt K g js tt te vs ds x ms1 acc (Nn (i + 1))) :
    g v (L2.wipe σ vs) H2 fun σ2 H3 => L2.wipe σ2 vs = L2.wipe σ vs ∧ tt σ2 H3 fun b H4 => if b = true then te σ2 H4 fun y H5 => ∃ ac, H5 D = some (.lst ac) ∧ ac.length < sizeLine ∧ (∃ acc' ms', Cs L M H1 D (i + 1) acc' ms' (upd H5 D (.lst (ac ++ [y]))) ∧ Nn (i + 1) acc' ms') else ∃ acc' ms', Cs L M H1 D (i + 1) acc' ms' H4 ∧ Nn (i + 1) acc' ms' := by
  have t : To M (M ++ [D]) H1 H2 := to_new a0 hD c.w
  have hDL : D ∉ L := a0.freshL hD
  have s2 : Sl K L (M ++ [D]) (L2.wipe σ vs) H2 (wipeD ds vs) := (hS.to t fun _ _ e => e).wipe vs
  refine h L (M ++ [D]) (L2.wipe σ vs) H2 v s2 c.a (ho.to t fun _ _ e => e) _ fun σ2 ds2 sl2 wp h2 => ?_
  have wv : L2.wipe σ2 vs = L2.wipe σ vs := by
    rw [wp vs hj]
    apply List.ext_getElem?
    intro i
    rw [wipe_get, wipe_get, wipe_length]
    by_cases e : i ∈ vs
    · rw [if_pos e, if_pos e]
    · simp only [if_neg e, wipe_get]
  refine ⟨wv, ?_⟩
  refine h2 L (M ++ [D]) σ2 H2 sl2 c.a _ fun b H4 ms4 w4 a4 ⟨k1, k2⟩ => ?_
  obtain ⟨xs, e, r⟩ := c.d
  have e4 : H4 D = some (.lst xs) := w4 D _ hDL e
  have r4 : RpA (M ++ [D]) H4 xs acc := RpA.to (c.a.wk w4) _ _ r
  cases b with
  | false =>
    rw [if_neg Bool.false_ne_true]
    exact ⟨acc, ms4, ⟨c.w.trans w4, a4, Nat.le_succ_of_le c.le, xs, e4, r4⟩, k2 rfl⟩
  | true =>
    rw [if_pos rfl]
    refine k1 rfl L (M ++ [D]) σ2 H4 (sl2.mono c.a w4) a4 _ fun s y H5 ms5 w5 o5 ⟨d, ed, hn⟩ => ?_
    have a5 := o5.at
    have ry := o5.sl
    rw [ed] at ry
    have e5 : H5 D = some (.lst xs) := w5 D _ hDL e4
    have r5 : RpA (M ++ [D]) H5 xs acc := RpA.to (a4.wk w5) _ _ r4
    have hDM : D ∈ M ++ [D] := by simp
    have tt5 : To (M ++ [D]) (M ++ [D]) H5 (upd H5 D (.lst (xs ++ [y]))) := fun a o n q => ⟨n, by rw [upd_ne (fun z : a = D => n (by rw [z]; exact hDM))]; exact q⟩
    refine ⟨xs, e5, by rw [r5.length]; exact Nat.lt_of_le_of_lt c.le (Nat.lt_trans hi (by decide)), acc ++ [d], ms5, ⟨fun a o n q => ?_, ⟨a5.nd, a5.sub, fun p hp => ?_, a5.ln, fun k p m e1 e2 => ?_⟩, ?_, xs ++ [y], upd_same, RpA.to tt5 _ _ (r5.append (.cons ry .nil))⟩, hn⟩
    · rw [upd_ne (ne_of_none q hD)]
      exact w5 a o n (w4 a o n (c.w a o n q))
    · by_cases z : p = D
      · subst z; rw [upd_same]; exact fun z => nomatch z
      · rw [upd_ne z]; exact a5.al p hp
    · exact (a5.ok k p m e1 e2).to tt5 (upd_ne (fun z => hDL (z ▸ List.mem_of_getElem? e1)))
    · rw [List.length_append]; have := c.le; simp; exact this
end
theorem e_lcR {g : TG} {js vs : List Nat} (hj : ∀ j ∈ js, j ∈ vs) (h : EA K tA ds ms fun as ms0 => ∃ n : Int, as = [.d (.int n)] ∧ (-(2 ^ 62) ≤ n ∧ n ≤ 10000) ∧ ∃ Pv : Nat → List PyData → List MD → Prop, Pv 0 [] ms0 ∧
      (∀ i acc ms1, i < n.toNat → Pv i acc ms1 → Lt K g js tt te vs ds (.d (.int i)) ms1 acc (Pv (i + 1))) ∧ ∀ acc ms1, Pv n.toNat acc ms1 → R (.f acc) ms1) :
    E K (tLc (iRng1 tA) g tt te vs) ds ms R := fun L M σ H hS hA Q q =>
  h L M σ H hS hA _ fun as us H1 ms0 w a1 o ⟨n, ea, hn, Pv, h0, hs, hd⟩ => by
    subst ea
    obtain ⟨v, t1, rfl, hv, rfl⟩ := o
    cases hv
    refine ⟨n, rfl, hn.1, by have := hn.2; omega, fun D hD => ?_⟩
    have hDL := a1.freshL hD
    refine lc_range (lo := 0) (n := n.toNat) (fun i H' => ∃ acc ms', Cs L M H1 D i acc ms' H' ∧ Pv i acc ms') ⟨[], ms0, .start a1 hD, h0⟩ (fun i H' hi ⟨acc, ms', c, p⟩ => ?_) (fun H' ⟨acc, ms', c, p⟩ => ?_)
    · have e0 : ((0 : Int) + (i : Int)) = (i : Int) := Int.zero_add _
      have := lc_turn (x := .d (.int i)) (v := .int ((0 : Int) + (i : Int))) (Nn := Pv) hj (by have := hn.2; omega) (hS.mono hA w) a1 hD c (by show Rp M H1 (.int (0 + (i : Int))) (.int i); rw [e0]; exact .int _) (hs i acc ms' hi p)
      exact this
    · exact q (.f acc) _ H' ms' (w.trans c.w) ⟨D, rfl, none_back a1 w (a1.fresh hD) hD, a1.fresh hD, c.done a1.sub hDL, a1.sub⟩ (hd acc ms' p)
theorem e_lcL {g : TG} {js vs : List Nat} (hj : ∀ j ∈ js, j ∈ vs) (h : E K tl ds ms fun s ms0 => ∃ es, Sw (dd s) es ∧ es.length ≤ 10000 ∧ ∃ Pv : Nat → List PyData → List MD → Prop, Pv 0 [] ms0 ∧
      (∀ i e acc ms1, es[i]? = some e → Pv i acc ms1 → Lt K g js tt te vs ds (.d e) ms1 acc (Pv (i + 1))) ∧ ∀ acc ms1, Pv es.length acc ms1 → R (.f acc) ms1) :
    E K (tLc (iList K tl) g tt te vs) ds ms R := fun L M σ H hS hA Q q =>
  h L M σ H hS hA _ fun s v H1 ms0 w o ⟨es, sw, hz, Pv, h0, hs, hd⟩ => by
    have a1 := o.at
    obtain ⟨a, xs, rfl, rx, hx⟩ := sw.is a1 o.sl
    refine ⟨a, rfl, ⟨xs, hx H1 (Wk.refl L H1)⟩, fun D hD => ?_⟩
    have hDL := a1.freshL hD
    refine lc_list (xs := xs) (fun i H' => ∃ acc ms', Cs L M H1 D i acc ms' H' ∧ Pv i acc ms') ⟨[], ms0, .start a1 hD, h0⟩ (fun i H' _ ⟨_, _, c, _⟩ => hx H' c.w) (fun i x H' hi ⟨acc, ms', c, p⟩ => ?_) (fun H' ⟨acc, ms', c, p⟩ => ?_)
    · obtain ⟨e, e1, e2⟩ := rx.get' hi
      have hl := (List.getElem?_eq_some_iff.mp e1).1
      exact lc_turn (x := .d e) (v := x) (Nn := Pv) hj (by omega) (hS.mono hA w) a1 hD c e2 (hs i e acc ms' e1 p)
    · rw [rx.length] at p
      exact q (.f acc) _ H' ms' (w.trans c.w) ⟨D, rfl, none_back a1 w (a1.fresh hD) hD, a1.fresh hD, c.done a1.sub hDL, a1.sub⟩ (hd acc ms' p)
theorem e_lcT {g : TG} {js vs : List Nat} (hj : ∀ j ∈ js, j ∈ vs) (h : E K tl ds ms fun s ms0 => ∃ es, s = .d (.tuple es) ∧ es.length ≤ 10000 ∧ ∃ Pv : Nat → List PyData → List MD → Prop, Pv 0 [] ms0 ∧
      (∀ i e acc ms1, es[i]? = some e → Pv i acc ms1 → Lt K g js tt te vs ds (.d e) ms1 acc (Pv (i + 1))) ∧ ∀ acc ms1, Pv es.length acc ms1 → R (.f acc) ms1) :
    E K (tLc (iTup K tl) g tt te vs) ds ms R := fun L M σ H hS hA Q q =>
  h L M σ H hS hA _ fun s v H1 ms0 w o ⟨es, es', hz, Pv, h0, hs, hd⟩ => by
    subst es'
    obtain ⟨a1, z⟩ := o
    cases z with
    | @tup a xs _ na e rx =>
    have hx : ∀ H', Wk L H1 H' → SqT K H' a xs := fun H' w' => SqT.of (w' a _ (fun z => na (a1.sub a z)) e)
    refine ⟨a, rfl, ⟨xs, hx H1 (Wk.refl L H1)⟩, fun D hD => ?_⟩
    have hDL := a1.freshL hD
    refine lc_tup (xs := xs) (fun i H' => ∃ acc ms', Cs L M H1 D i acc ms' H' ∧ Pv i acc ms') ⟨[], ms0, .start a1 hD, h0⟩ (fun i H' _ ⟨_, _, c, _⟩ => hx H' c.w) (fun i x H' hi ⟨acc, ms', c, p⟩ => ?_) (fun H' ⟨acc, ms', c, p⟩ => ?_)
    · obtain ⟨e, e1, e2⟩ := rx.get' hi
      have hl := (List.getElem?_eq_some_iff.mp e1).1
      exact lc_turn (x := .d e) (v := x) (Nn := Pv) hj (by omega) (hS.mono hA w) a1 hD c e2 (hs i e acc ms' e1 p)
    · rw [rx.length] at p
      exact q (.f acc) _ H' ms' (w.trans c.w) ⟨D, rfl, none_back a1 w (a1.fresh hD) hD, a1.fresh hD, c.done a1.sub hDL, a1.sub⟩ (hd acc ms' p)
end
end Hc

namespace Hc
open PySem PySem.Spec PyProof.Rows L2
section
variable {K : PySem.W.Frag} {te ta tb tc tl : TE} {tt : TT} {tA : TA} {ds : List SD} {ms : List MD} {R : RS} {t u : TS} {P : Po}
/-! ### a new thing that may change, until the block's end -/
def frzS (n : Nat) (es : List PyData) : SD → SD
  | .m k => if k = n then .d (.list es) else .m k
  | s => s
def frzR (n : Nat) (es : List PyData) : SD → SD
  | .m k => if k = n then .f es else .m k
  | s => s
def Po.frz (P : Po) (n : Nat) : Po where
  nx := fun ds' ms' => ∃ ms1 es, ms' = ms1 ++ [.l es] ∧ ms1.length = n ∧ P.nx (ds'.map (frzS n es)) ms1
  rt := fun s ms' => ∃ ms1 es, ms' = ms1 ++ [.l es] ∧ ms1.length = n ∧ P.rt (frzR n es s) ms1
  bk := fun ds' ms' => ∃ ms1 es, ms' = ms1 ++ [.l es] ∧ ms1.length = n ∧ P.bk (ds'.map (frzS n es)) ms1
  ct := fun ds' ms' => ∃ ms1 es, ms' = ms1 ++ [.l es] ∧ ms1.length = n ∧ P.ct (ds'.map (frzS n es)) ms1
section
variable {L M : List Addr} {p : Addr} {H H0 H1 : Hp} {ms1 : List MD} {es : List PyData} {N : List SD → List MD → Prop} {C : L2.St → Hp → Prop}
theorem SlOk.frz {s : SD} {v : V} (a : At (L ++ [p]) (M ++ [p]) (ms1 ++ [.l es]) H) (np : p ∉ M) (h : SlOk K (L ++ [p]) (M ++ [p]) H s v) : SlOk K L M H (frzS ms1.length es s) v := by
  have hl : L.length = ms1.length := by have := a.ln; simp at this; exact this
  cases s with
  | u => exact h
  | f _ => exact h
  | d x => exact Rp.to to_less _ _ h
  | v x => exact h
  | s ns =>
    obtain ⟨b, e, ⟨n, q⟩ | q⟩ := h
    · exact ⟨b, e, .inl ⟨fun z => n (List.mem_append_left _ z), q⟩⟩
    · exact ⟨b, e, .inr q⟩
  | m k =>
    obtain ⟨q, rfl, hq⟩ := h
    show SlOk K L M H (if k = ms1.length then .d (.list es) else .m k) _
    by_cases hk : k = ms1.length
    · rw [if_pos hk]
      subst hk
      rw [← hl] at hq
      simp at hq
      subst hq
      obtain ⟨xs, e1, r⟩ := a.last
      exact .lst np e1 (RpA.to to_less _ _ r)
    · rw [if_neg hk]
      have : k < L.length := by
        have := (List.getElem?_eq_some_iff.mp hq).1
        simp at this
        omega
      rw [List.getElem?_append_left this] at hq
      exact ⟨q, rfl, hq⟩
theorem Sl.frz {σ : L2.St} (a : At (L ++ [p]) (M ++ [p]) (ms1 ++ [.l es]) H) (np : p ∉ M) (h : Sl K (L ++ [p]) (M ++ [p]) σ H ds) : Sl K L M σ H (ds.map (frzS ms1.length es)) := fun i s e => by
  rw [List.getElem?_map] at e
  cases q : ds[i]? with
  | none => rw [q] at e; cases e
  | some s0 =>
    rw [q] at e
    have e' : frzS ms1.length es s0 = s := Option.some.inj e
    by_cases hu : s0 = .u
    · subst hu
      subst e'
      exact h i .u q
    · obtain ⟨v, e1, e2⟩ := h.get q hu
      have z := e2.frz a np
      rw [e'] at z
      cases s with
      | u => exact z.elim
      | f _ => exact z.elim
      | d x => exact ⟨v, e1, z⟩
      | m k => exact ⟨v, e1, z⟩
      | s ns => exact ⟨v, e1, z⟩
      | v x => exact ⟨v, e1, z⟩
theorem At.dropMid {q : Addr} {fs : List PyData} (a : At (L ++ [p] ++ [q]) (M ++ [p] ++ [q]) (ms1 ++ [.l es] ++ [.l fs]) H) (sb : ∀ x ∈ L, x ∈ M) : At (L ++ [q]) (M ++ [q]) (ms1 ++ [.l fs]) H := by
  have hl : L.length = ms1.length := by have := a.ln; simp at this; exact this
  have t : To (M ++ [p] ++ [q]) (M ++ [q]) H H := fun b o n e => ⟨fun z => n (by
    rcases List.mem_append.mp z with z | z
    · exact List.mem_append_left _ (List.mem_append_left _ z)
    · exact List.mem_append_right _ z), e⟩
  have nd := a.nd
  refine ⟨?_, ?_, ?_, by simp [hl], fun k x m e1 e2 => ?_⟩
  · rw [List.append_assoc] at nd
    obtain ⟨n1, n2, n3⟩ := List.nodup_append.mp nd
    exact List.nodup_append.mpr ⟨n1, by simp, fun x hx y hy => n3 x hx y (by simp at hy ⊢; exact Or.inr hy)⟩
  · intro x hx
    rcases List.mem_append.mp hx with z | z
    · exact List.mem_append_left _ (sb x z)
    · exact List.mem_append_right _ z
  · intro x hx
    refine a.al x ?_
    rcases List.mem_append.mp hx with z | z
    · exact List.mem_append_left _ (List.mem_append_left _ z)
    · exact List.mem_append_right _ z
  · by_cases hk : k < L.length
    · rw [List.getElem?_append_left hk] at e1
      rw [List.getElem?_append_left (by rw [← hl]; exact hk)] at e2
      refine (a.ok k x m ?_ ?_).to t rfl
      · rw [List.append_assoc, List.getElem?_append_left hk]; exact e1
      · rw [List.append_assoc, List.getElem?_append_left (by rw [← hl]; exact hk)]; exact e2
    · have hk2 : k = L.length := by
        have := (List.getElem?_eq_some_iff.mp e1).1
        simp at this
        omega
      subst hk2
      have ex : q = x := by simpa using e1
      subst ex
      rw [hl] at e2
      have em : MD.l fs = m := by simpa using e2
      subst em
      obtain ⟨xs, e, r⟩ := a.last
      exact ⟨xs, e, RpA.to t _ _ r⟩
theorem Out.frz {v : V} {s : SD} (hp0 : H0 p = none) (a : At (L ++ [p]) (M ++ [p]) (ms1 ++ [.l es]) H) (w0 : ∀ q, q ∉ M → q ≠ p → H1 q = none → H0 q = none) (np : p ∉ M) (sb : ∀ x ∈ L, x ∈ M) (h : Out K (L ++ [p]) (M ++ [p]) H1 H (ms1 ++ [.l es]) v s) : Out K L M H0 H ms1 v (frzR ms1.length es s) := by
  have ad := a.drop sb
  cases s with
  | u => exact h.2.elim
  | d x => exact ⟨ad, Rp.to to_less _ _ h.2⟩
  | s ns => exact ⟨ad, SlOk.frz (s := .s ns) a np h.2⟩
  | v x => exact ⟨ad, h.2⟩
  | f fs =>
    obtain ⟨q, rfl, hq, nq, aq, _⟩ := h
    have nqM : q ∉ M := fun z => nq (List.mem_append_left _ z)
    have nqp : q ≠ p := fun z => nq (List.mem_append_right _ (by simp [z]))
    exact ⟨q, rfl, w0 q nqM nqp hq, nqM, aq.dropMid sb, sb⟩
  | m k =>
    have hl : L.length = ms1.length := by have := a.ln; simp at this; exact this
    obtain ⟨_, q, rfl, hq⟩ := h
    show Out K L M H0 H ms1 _ (if k = ms1.length then .f es else .m k)
    by_cases hk : k = ms1.length
    · rw [if_pos hk]
      subst hk
      rw [← hl] at hq
      simp at hq
      subst hq
      exact ⟨p, rfl, hp0, np, a, sb⟩
    · rw [if_neg hk]
      have : k < L.length := by
        have := (List.getElem?_eq_some_iff.mp hq).1
        simp at this
        omega
      rw [List.getElem?_append_left this] at hq
      exact ⟨ad, q, rfl, hq⟩
end
theorem append_inj_last {ms1 ms2 : List MD} {m1 m2 : MD} (h : ms1 ++ [m1] = ms2 ++ [m2]) : ms1 = ms2 ∧ m1 = m2 := by
  have := List.append_inj' h rfl
  exact ⟨this.1, by simpa using this.2⟩
theorem s_new {i : Nat} (h : E K te ds ms fun s ms1 => ∃ es, s = .f es ∧ S K u (ds.set i (.m ms1.length)) (ms1 ++ [.l es]) (P.frz ms1.length)) : S K (tSeq (tAsg te (gName i)) u) ds ms P := fun L M σ H hS hA D n r b c =>
  h L M σ H hS hA _ fun s v H1 ms1 w o ⟨es, e, h1⟩ => by
    subst e
    obtain ⟨p, rfl, hp, np, a1, sb⟩ := o
    have hl : L.length = ms1.length := by have := a1.ln; simp at this; exact this
    have npL : p ∉ L := fun z => np (hA.sub p z)
    have t : To M (M ++ [p]) H H1 := to_new hA hp w
    have hS1 : Sl K (L ++ [p]) (M ++ [p]) (σ.set i (some (.ref p))) H1 (ds.set i (.m ms1.length)) := by
      refine (hS.to t fun k q e => ?_).set i ⟨p, rfl, by rw [← hl]; simp⟩
      rw [List.getElem?_append_left (List.getElem?_eq_some_iff.mp e).1]
      exact e
    have wk : ∀ {H2 : Hp}, Wk (L ++ [p]) H1 H2 → Wk L H H2 := fun {H2} w2 x y nx ex => w2 x y (fun z => (List.mem_append.mp z).elim nx fun z => ne_of_none ex hp (by simpa using z)) (w x y nx ex)
    have go : ∀ {N : List SD → List MD → Prop} {C : L2.St → Hp → Prop}, Nx K L M H N C → Nx K (L ++ [p]) (M ++ [p]) H1 (fun ds' ms' => ∃ ms1' es, ms' = ms1' ++ [.l es] ∧ ms1'.length = ms1.length ∧ N (ds'.map (frzS ms1.length es)) ms1') C := by
      intro N C nn σ2 H2 ds2 ms2 w2 s2 a2 ⟨ms3, es3, e3, l3, n3⟩
      subst e3
      rw [← l3] at n3
      exact nn σ2 H2 _ ms3 (wk w2) (s2.frz a2 np) (a2.drop sb) n3
    refine h1 (L ++ [p]) (M ++ [p]) _ H1 hS1 a1 D (go n) ?_ (go b) (go c)
    intro s2 v2 H2 ms2 w2 o2 ⟨ms3, es3, e3, l3, n3⟩
    subst e3
    rw [← l3] at n3
    refine r _ v2 H2 ms3 (wk w2) ?_ n3
    refine Out.frz hp o2.at (fun q hq hqp hq1 => ?_) np sb o2
    cases e : H q with
    | none => rfl
    | some oo => rw [w q oo (fun z => hq (hA.sub q z)) e] at hq1; cases hq1
/-! ### a whole def -/
theorem SlsOk.len {L M : List Addr} {H : Hp} : ∀ {as : List SD} {vs : List V}, SlsOk K L M H as vs → as.length = vs.length
  | [], _, h => by cases h; rfl
  | s :: r, _, ⟨v, t, e, a, b⟩ => by subst e; simp [SlsOk.len b]
theorem SlsOk.get {L M : List Addr} {H : Hp} : ∀ {as : List SD} {vs : List V} {i : Nat} {s : SD}, SlsOk K L M H as vs → as[i]? = some s → ∃ v, vs[i]? = some v ∧ SlOk K L M H s v
  | [], _, _, _, h, e => by simp at e
  | s :: r, _, 0, _, ⟨v, t, e, a, b⟩, e2 => by subst e; simp at e2; subst e2; exact ⟨v, rfl, a⟩
  | s :: r, _, i + 1, x, ⟨v, t, e, a, b⟩, e2 => by
    subst e
    obtain ⟨v2, e3, e4⟩ := SlsOk.get (i := i) (s := x) b (by simpa using e2)
    exact ⟨v2, by simpa using e3, e4⟩
theorem Sl.start {L M : List Addr} {H : Hp} {N : List Str} {as : List SD} {vs : List V} (h : SlsOk K L M H as vs) (hn : as.length ≤ N.length) : Sl K L M (start N vs) H (as ++ List.replicate (N.length - as.length) .u) := fun i s e => by
  have hl := h.len
  by_cases hi : i < as.length
  · rw [List.getElem?_append_left hi] at e
    obtain ⟨v, e1, e2⟩ := h.get e
    have e3 : (L2.start N vs)[i]? = some (some v) := by
      unfold L2.start
      rw [List.getElem?_append_left (by simp [← hl]; exact hi), List.getElem?_map, e1]
      rfl
    cases s with
    | u => exact e2.elim
    | f _ => exact e2.elim
    | d x => exact ⟨v, e3, e2⟩
    | m k => exact ⟨v, e3, e2⟩
    | s ns => exact ⟨v, e3, e2⟩
    | v x => exact ⟨v, e3, e2⟩
  · rw [List.getElem?_append_right (by omega)] at e
    have hs : s = .u := by
      have := List.mem_of_getElem? e
      exact (List.mem_replicate.mp this).2
    subst hs
    show i < (L2.start N vs).length
    have := (List.getElem?_eq_some_iff.mp e).1
    unfold L2.start
    simp at this ⊢
    omega
def fin (R : RS) : Po where
  nx := fun _ ms' => R (.d .none) ms'
  rt := R
  bk := fun _ _ => False
  ct := fun _ _ => False
theorem read_of {N : List Str} {Φ : Ph} {vs : List V} {H : Hp} {Q : VK} {X : XK} (hn : ∀ as ms R, Φ as ms R → as.length ≤ N.length) (h : ∀ as ms R, Φ as ms R → S K t (as ++ List.replicate (N.length - as.length) .u) ms (fin R)) (hs : SpD K Φ vs H Q X) :
    t { nx := fun _ H' => Q .non H', rt := Q } (start N vs) H := by
  obtain ⟨L, M, ms, as, R, hA, ho, hp, q⟩ := hs
  exact h as ms R hp L M _ H (Sl.start ho (hn _ _ _ hp)) hA _ (fun σ' H' ds' ms' w s a r => q (.d .none) .non H' ms' w ⟨a, .non⟩ r) (fun s v H' ms' w o r => q s v H' ms' w o r) (fun _ _ _ _ _ _ _ z => z.elim) (fun _ _ _ _ _ _ _ z => z.elim)
end
section
variable {Pg : Program} {w : World} {K : PySem.W.Frag} {mg : Str → Option Value} {base : Heap}
/-- a def that keeps Φ -/
theorem ok_of {x qual : Str} {st : Stmt} {f : Addr} {fd : FuncData} {N ps : List Str} {k : Nat} {Φ : Ph} (F : Fun K x qual st f fd) (Sc : FnScope N ps (defScope st)) (hl : ∀ as ms R, Φ as ms R → as.length = ps.length) (hpn : ps.length ≤ N.length)
    (hbody : ∀ (cdv : Value) (A : Around) (outer : List Env) (s : Shared) (H : Hp) (E : XK), Room k (A.deeper (envOfC qual (defScope st) s.heap.objs.size f cdv)) →
      ∃ t, PSs (cxOf CX0 Pg w K mg base N qual (defScope st) f cdv A outer s H E).nox (defBody st) t ∧ ∀ as ms R, Φ as ms R → S K t (as ++ List.replicate (N.length - as.length) .u) ms (fin R)) : FnOk Pg w K mg base CX0 (k + 1) f fd ps (SpD K Φ) := by
  refine F.ok Sc (fun vs H Q E h => ?_) (fun cdv A outer s H vs Q E hr h => ?_)
  · obtain ⟨L, M, ms, as, R, hA, ho, hp, q⟩ := h
    rw [← ho.len]
    exact hl as ms R hp
  · obtain ⟨t, h1, h2⟩ := hbody cdv A outer s H E hr
    exact ⟨t, h1, read_of (fun as ms R z => by rw [hl as ms R z]; exact hpn) h2 h⟩
end
end Hc

namespace Hc
open PySem PySem.Spec PyProof.Rows L2
abbrev rAddI : R2 := rI0 fun i j => .int (i + j)
abbrev rSubI : R2 := rI0 fun i j => .int (i - j)
abbrev rMulI : R2 := rI CMul fun i j => .int (i * j)
abbrev rModN : R2 := rI (fun _ j => j ≠ 0) fun i j => .int (i.fmod j)
abbrev rPowI : R2 := rI CPow fun i j => .int (i ^ j.toNat)
abbrev rXorI : R2 := rI0 fun i j => .int (Builtin.bitXor i j)
abbrev rLtI : R2 := rI0 fun i j => .bl (decide (i < j))
abbrev rLeI : R2 := rI0 fun i j => .bl (decide (i ≤ j))
abbrev rGtI : R2 := rI0 fun i j => .bl (decide (j < i))
abbrev rGeI : R2 := rI0 fun i j => .bl (decide (j ≤ i))
abbrev rNegI : V → Hp → VK → Prop := rU fun i => .int (-i)
abbrev rAddStr : R2 := fun x y H Q => ∃ i j, x = .str i ∧ y = .str j ∧ i.length + j.length ≤ sizeLine ∧ Q (.str (i ++ j)) H
abbrev rIsNn : R2 := fun x y H Q => y = .non ∧ Q (.bl (decide (x = .non))) H
abbrev rNotNn : R2 := fun x y H Q => y = .non ∧ Q (.bl (!decide (x = .non))) H
abbrev rAbs : List V → Hp → VK → Prop := fun xs H Q => ∃ i, xs = [.int i] ∧ Q (.int (if i < 0 then -i else i)) H
abbrev rMaxI : List V → Hp → VK → Prop := fun xs H Q => ∃ i j, xs = [.int i, .int j] ∧ Q (.int (if j > i then j else i)) H
abbrev rMinI : List V → Hp → VK → Prop := fun xs H Q => ∃ i j, xs = [.int i, .int j] ∧ Q (.int (if j < i then j else i)) H
abbrev rStrI : List V → Hp → VK → Prop := fun xs H Q => ∃ i : Int, xs = [.int i] ∧ i.natAbs.log2 < 1920 ∧ Q (.str (toString i)) H
abbrev rLenQ (K : PySem.W.Frag) : List V → Hp → VK → Prop := fun xs H Q => ∃ p ys, xs = [.ref p] ∧ (SqL K H p ys ∨ SqT K H p ys) ∧ Q (.int ys.length) H
abbrev rTupQ (K : PySem.W.Frag) : List V → Hp → VK → Prop := fun xs H Q => ∃ p ys, xs = [.ref p] ∧ ((SqL K H p ys ∧ ∀ l, H l = none → Q (.ref l) (upd H l (.tup ys))) ∨ (SqT K H p ys ∧ Q (.ref p) H))
abbrev rListQ (K : PySem.W.Frag) : List V → Hp → VK → Prop := fun xs H Q => ∃ p ys, xs = [.ref p] ∧ (SqL K H p ys ∨ SqT K H p ys) ∧ ∀ l, H l = none → Q (.ref l) (upd H l (.lst ys))
/-- sizes -/
@[irreducible] def Bd (n : Nat) (i : Int) : Prop := i.natAbs < 2 ^ n
def CMulX (i j : Int) : Prop := Bd 100000 i ∧ Bd 100000 j
def CDivX (_ j : Int) : Prop := j ≠ 0 ∧ Bd 8000 j
abbrev rMulX : R2 := rI CMulX fun i j => .int (i * j)
abbrev rDivX : R2 := rI CDivX fun i j => .int (i.fdiv j)
theorem Bd.iff {n : Nat} {i : Int} : Bd n i ↔ i.natAbs < 2 ^ n := by unfold Bd; exact Iff.rfl
theorem Bd.mono {m n : Nat} {i : Int} (h : Bd m i) (l : m ≤ n) : Bd n i := Bd.iff.mpr (Nat.lt_of_lt_of_le (Bd.iff.mp h) (Nat.pow_le_pow_right (by decide) l))
theorem Bd.mul {m n : Nat} {i j : Int} (a : Bd m i) (b : Bd n j) : Bd (m + n) (i * j) := Bd.iff.mpr (wide_lt (Bd.iff.mp a) (Bd.iff.mp b))
theorem Bd.add {m : Nat} {i j : Int} (a : Bd m i) (b : Bd m j) : Bd (m + 1) (i + j) := by
  have ha := Bd.iff.mp a
  have hb := Bd.iff.mp b
  refine Bd.iff.mpr ?_
  rw [Nat.pow_succ]
  have := Int.natAbs_add_le i j
  omega
theorem Bd.neg {m : Nat} {i : Int} (a : Bd m i) : Bd m (-i) := Bd.iff.mpr (by rw [Int.natAbs_neg]; exact Bd.iff.mp a)
theorem Bd.sub {m : Nat} {i j : Int} (a : Bd m i) (b : Bd m j) : Bd (m + 1) (i - j) := by
  rw [Int.sub_eq_add_neg]
  exact a.add b.neg
theorem Bd.le {m : Nat} {i j : Int} (a : Bd m j) (h : i.natAbs ≤ j.natAbs) : Bd m i := Bd.iff.mpr (Nat.lt_of_le_of_lt h (Bd.iff.mp a))
theorem Bd.of {n : Nat} {i : Int} (h : i.natAbs < 2 ^ n) : Bd n i := Bd.iff.mpr h
section
variable {X : Cx}
theorem op_mulX : OpR X (binaryOp .Mult) rMulX := opI fun _ _ _ _ _ _ _ hc q => mul_int q (CMulW.ok (wide_mul (Bd.iff.mp hc.1) (Bd.iff.mp hc.2) (by decide) (by decide) (by decide)))
theorem op_fdivX : OpR X (binaryOp .FloorDiv) rDivX := opI fun i j _ _ _ _ _ hc q => floordiv_int hc.1 q (.inl (PyProof.noPylong_of_log2 (Nat.lt_trans (PySem.Flt.log2_lt_of (by decide) (Bd.iff.mp hc.2)) (by decide))))
end
section
variable {K : PySem.W.Frag} {te ta tb tc tl : TE} {tt : TT} {tA : TA} {ds : List SD} {ms : List MD} {R : RS} {t u : TS} {P : Po}
theorem e_dnew (h : ∀ kvs, R (.d (.dict kvs)) ms) : E K tDNewK ds ms R := fun L M σ H hS hA Q q => fun p hp => q (.d (.dict [])) _ _ ms (Wk.new hp) ⟨hA.new hp, .dct (hA.fresh hp) upd_same⟩ (h [])
theorem rr_ix {a b : SD} (h : ∃ es i d, (Sv ms a (.list es) ∨ Sv ms a (.tuple es)) ∧ b = .d (.int i) ∧ atI es i = some d ∧ R (.d d) ms) : RR K (rIx K) a b ms R := fun L M H x y hA ha hb Q q => by
  obtain ⟨es, i, d, sa | sa, e1, e2, r⟩ := h
  · exact .inl (rr_ixL ⟨es, i, d, sa, e1, e2, r⟩ L M H x y hA ha hb Q q)
  · exact .inr (.inl (rr_ixT ⟨es, i, d, sa, e1, e2, r⟩ L M H x y hA ha hb Q q))
end
/-! ### defs by name -/
structure Kn (Pg : Program) (w : World) (K : PySem.W.Frag) (mg : Str → Option Value) (base : Heap) (x : Str) (lv : Nat) (ps : List Str) (Φ : Ph) : Prop where
  ex : ∃ f fd, FnOk Pg w K mg base CX0 lv f fd ps (SpD K Φ) ∧ mg x = some (.ref f) ∧ PySem.W.keepIn K (.ref f) = true ∧ Binds K fd ps []
theorem pe_callD {X : Cx} {x : Str} {lv : Nat} {ps : List Str} {Φ : Ph} {e : Expr} {es : List Expr} {t : TA} {p pos : Pos} (h : Kn X.prog X.w X.K X.mg X.base x lv ps Φ) (hr : Room lv X.A) (hg : Gl X x) (ha : PA X (e :: es) t)
    (hdb : (x == ("__debug__" : Str)) = false := by decide) (he : starEach (e :: es) X.env = (false, eval e X.env) :: starEach es X.env := by rfl) (hpl : (backTo pos (starEach es X.env)).any (·.1) = false := by rfl) :
    PE X (.Call (.Name x p) (e :: es) [] pos) (tCall (SpD X.K Φ) [] E0 t) := by
  obtain ⟨f, fd, G, m, k, b⟩ := h.ex
  exact pe_call G hr hg m k b .nil pass0 ha hdb he hpl
def ph1 (f : SD → List MD → RS → Prop) : Ph := fun as ms R => ∃ a, as = [a] ∧ f a ms R
def ph2 (f : SD → SD → List MD → RS → Prop) : Ph := fun as ms R => ∃ a b, as = [a, b] ∧ f a b ms R
def ph3 (f : SD → SD → SD → List MD → RS → Prop) : Ph := fun as ms R => ∃ a b c, as = [a, b, c] ∧ f a b c ms R
def ph4 (f : SD → SD → SD → SD → List MD → RS → Prop) : Ph := fun as ms R => ∃ a b c d, as = [a, b, c, d] ∧ f a b c d ms R
theorem ph1_len {f : SD → List MD → RS → Prop} : ∀ as ms R, ph1 f as ms R → as.length = 1 := fun _ _ _ ⟨_, e, _⟩ => by rw [e]; rfl
theorem ph2_len {f : SD → SD → List MD → RS → Prop} : ∀ as ms R, ph2 f as ms R → as.length = 2 := fun _ _ _ ⟨_, _, e, _⟩ => by rw [e]; rfl
theorem ph3_len {f : SD → SD → SD → List MD → RS → Prop} : ∀ as ms R, ph3 f as ms R → as.length = 3 := fun _ _ _ ⟨_, _, _, e, _⟩ => by rw [e]; rfl
theorem ph4_len {f : SD → SD → SD → SD → List MD → RS → Prop} : ∀ as ms R, ph4 f as ms R → as.length = 4 := fun _ _ _ ⟨_, _, _, _, e, _⟩ => by rw [e]; rfl
/-- the script at the law's door -/
theorem at_door {K : PySem.W.Frag} {H : Hp} {a : Addr} {ns : List Int} (hO : Only H) (hS : SqL K H a (ns.map V.int)) : SlOk K [] [] H (.s ns) (.ref a) := by
  refine ⟨a, rfl, ?_⟩
  rcases hS with h | h
  · exact .inl ⟨by simp, h⟩
  · exact .inr fun H' => .inr h
theorem at_nil {H : Hp} : At [] [] [] H := ⟨List.nodup_nil, fun _ h => by simp at h, fun _ h => by simp at h, rfl, fun _ _ _ h => by simp at h⟩
end Hc

namespace Hc
open PySem PySem.Spec PyProof.Rows L2
theorem instInt (d : PyData) : kitB (tyN d) "int" = some (inst d "int") := by
  have h : ∀ n : String, n ∈ ["NoneType", "bool", "int", "str", "list", "tuple", "dict"] → kitB n "int" = some ((kitB n "int").getD false) := by decide +kernel
  cases d <;> exact h _ (by simp [tyN])
theorem instBool (d : PyData) : kitB (tyN d) "bool" = some (inst d "bool") := by
  have h : ∀ n : String, n ∈ ["NoneType", "bool", "int", "str", "list", "tuple", "dict"] → kitB n "bool" = some ((kitB n "bool").getD false) := by decide +kernel
  cases d <;> exact h _ (by simp [tyN])
theorem instTuple (d : PyData) : kitB (tyN d) "tuple" = some (inst d "tuple") := by
  have h : ∀ n : String, n ∈ ["NoneType", "bool", "int", "str", "list", "tuple", "dict"] → kitB n "tuple" = some ((kitB n "tuple").getD false) := by decide +kernel
  cases d <;> exact h _ (by simp [tyN])
theorem instList (d : PyData) : kitB (tyN d) "list" = some (inst d "list") := by
  have h : ∀ n : String, n ∈ ["NoneType", "bool", "int", "str", "list", "tuple", "dict"] → kitB n "list" = some ((kitB n "list").getD false) := by decide +kernel
  cases d <;> exact h _ (by simp [tyN])
theorem instStr (d : PyData) : kitB (tyN d) "str" = some (inst d "str") := by
  have h : ∀ n : String, n ∈ ["NoneType", "bool", "int", "str", "list", "tuple", "dict"] → kitB n "str" = some ((kitB n "str").getD false) := by decide +kernel
  cases d <;> exact h _ (by simp [tyN])
def isWhole : PyData → Bool
  | .int _ => true
  | _ => false
def isTup : PyData → Bool
  | .tuple _ => true
  | _ => false
def isLst : PyData → Bool
  | .list _ => true
  | _ => false
def isRow : PyData → Bool
  | .list _ => true
  | .tuple _ => true
  | _ => false
theorem inst_tup (x : PyData) : inst x "tuple" = isTup x := by
  cases x with
  | none => exact (by decide +kernel : inst .none "tuple" = false)
  | bool b => exact (by decide +kernel : inst (.bool true) "tuple" = false)
  | int i => exact (by decide +kernel : inst (.int 0) "tuple" = false)
  | str s => exact (by decide +kernel : inst (.str "") "tuple" = false)
  | list s => exact (by decide +kernel : inst (.list []) "tuple" = false)
  | tuple s => exact (by decide +kernel : inst (.tuple []) "tuple" = true)
  | dict s => exact (by decide +kernel : inst (.dict []) "tuple" = false)
theorem inst_lst (x : PyData) : inst x "list" = isLst x := by
  cases x with
  | none => exact (by decide +kernel : inst .none "list" = false)
  | bool b => exact (by decide +kernel : inst (.bool true) "list" = false)
  | int i => exact (by decide +kernel : inst (.int 0) "list" = false)
  | str s => exact (by decide +kernel : inst (.str "") "list" = false)
  | list s => exact (by decide +kernel : inst (.list []) "list" = true)
  | tuple s => exact (by decide +kernel : inst (.tuple []) "list" = false)
  | dict s => exact (by decide +kernel : inst (.dict []) "list" = false)
theorem inst_row (x : PyData) : (inst x "list" || inst x "tuple") = isRow x := by rw [inst_lst, inst_tup]; cases x <;> rfl
theorem whole_and (x : PyData) : (inst x "int" && !inst x "bool") = isWhole x := by
  cases x with
  | none => exact (by decide +kernel : (inst .none "int" && !inst .none "bool") = false)
  | bool b => exact (by decide +kernel : (inst (.bool true) "int" && !inst (.bool true) "bool") = false)
  | int i => exact (by decide +kernel : (inst (.int 0) "int" && !inst (.int 0) "bool") = true)
  | str s => exact (by decide +kernel : (inst (.str "") "int" && !inst (.str "") "bool") = false)
  | list s => exact (by decide +kernel : (inst (.list []) "int" && !inst (.list []) "bool") = false)
  | tuple s => exact (by decide +kernel : (inst (.tuple []) "int" && !inst (.tuple []) "bool") = false)
  | dict s => exact (by decide +kernel : (inst (.dict []) "int" && !inst (.dict []) "bool") = false)
theorem whole_inv {x : PyData} (h : isWhole x = true) : ∃ i, x = .int i := by
  cases x with
  | int i => exact ⟨i, rfl⟩
  | _ => cases h
theorem tup_inv {x : PyData} (h : isTup x = true) : ∃ i, x = .tuple i := by
  cases x with
  | tuple i => exact ⟨i, rfl⟩
  | _ => cases h
/-! ### numbers -/
theorem abs_nat (i : Int) : (if i < 0 then -i else i) = (i.natAbs : Int) := by split <;> omega
theorem fmod_nat (x y : Nat) : Int.fmod (x : Int) (y : Int) = ((x % y : Nat) : Int) := by
  rw [Int.fmod_eq_emod_of_nonneg _ (by omega)]
  rfl
theorem gcd_step (x y : Nat) : Nat.gcd y (x % y) = Nat.gcd x y := by
  rw [Nat.gcd_comm y (x % y), ← Nat.gcd_rec, Nat.gcd_comm]
abbrev pr (p : Int × Int) : PyData := .tuple [.int p.1, .int p.2]
/-- the fraction of two ints -/
def fr (i j : Int) : Int × Int := if j < 0 then (i.fdiv (-(Int.gcd i j : Int)), j.fdiv (-(Int.gcd i j : Int))) else (i.fdiv (Int.gcd i j), j.fdiv (Int.gcd i j))
theorem fr_is {i j : Int} (hj : j ≠ 0) : ∃ c : Int, c ≠ 0 ∧ (0 < c ↔ 0 < j) ∧ c.natAbs = Int.gcd i j ∧ i = (fr i j).1 * c ∧ j = (fr i j).2 * c := by
  have hg : 0 < Int.gcd i j := Int.gcd_pos_of_ne_zero_right i hj
  have d1 : (Int.gcd i j : Int) ∣ i := Int.gcd_dvd_left ..
  have d2 : (Int.gcd i j : Int) ∣ j := Int.gcd_dvd_right ..
  unfold fr
  by_cases h : j < 0
  · rw [if_pos h]
    refine ⟨-(Int.gcd i j : Int), by omega, by omega, by omega, ?_, ?_⟩
    · exact (Int.fdiv_mul_cancel (Int.neg_dvd.mpr d1)).symm
    · exact (Int.fdiv_mul_cancel (Int.neg_dvd.mpr d2)).symm
  · rw [if_neg h]
    refine ⟨(Int.gcd i j : Int), by omega, by omega, by omega, ?_, ?_⟩
    · exact (Int.fdiv_mul_cancel d1).symm
    · exact (Int.fdiv_mul_cancel d2).symm
theorem fr_pos {i j : Int} (hj : j ≠ 0) : 0 < (fr i j).2 := by
  obtain ⟨c, c0, cs, _, _, e⟩ := fr_is (i := i) hj
  by_cases h : 0 < j
  · have hc := cs.mpr h
    rw [e] at h
    exact Int.pos_of_mul_pos_left h hc
  · have hc : c < 0 := by
      have : ¬ 0 < c := fun z => h (cs.mp z)
      omega
    have hn : (fr i j).2 * c < 0 := by rw [← e]; omega
    exact Int.pos_of_mul_neg_left hn hc
theorem fr_low {i j : Int} (hj : j ≠ 0) : Int.gcd (fr i j).1 (fr i j).2 = 1 := by
  obtain ⟨c, c0, cs, cg, e1, e2⟩ := fr_is (i := i) hj
  have h : Int.gcd i j = Int.gcd (fr i j).1 (fr i j).2 * c.natAbs := by
    have := Int.gcd_mul_right (fr i j).1 c (fr i j).2
    rw [← e1, ← e2] at this
    exact this
  have hg : 0 < Int.gcd i j := Int.gcd_pos_of_ne_zero_right i hj
  rw [cg] at h
  have h1 : 1 * Int.gcd i j = Int.gcd (fr i j).1 (fr i j).2 * Int.gcd i j := by rw [Nat.one_mul]; exact h
  exact (Nat.eq_of_mul_eq_mul_right hg h1).symm
theorem fr_cross {i j : Int} (hj : j ≠ 0) : (fr i j).1 * j = i * (fr i j).2 := by
  obtain ⟨c, c0, cs, cg, e1, e2⟩ := fr_is (i := i) hj
  generalize (fr i j).1 = x at *
  generalize (fr i j).2 = y at *
  subst e1 e2
  rw [Int.mul_assoc, Int.mul_comm c y]
theorem fr_le {i j : Int} (hj : j ≠ 0) : (fr i j).1.natAbs ≤ i.natAbs ∧ (fr i j).2.natAbs ≤ j.natAbs := by
  obtain ⟨c, c0, cs, cg, e1, e2⟩ := fr_is (i := i) hj
  have hc : 1 ≤ c.natAbs := by omega
  generalize (fr i j).1 = x at *
  generalize (fr i j).2 = y at *
  subst e1 e2
  rw [Int.natAbs_mul, Int.natAbs_mul]
  exact ⟨Nat.le_mul_of_pos_right _ hc, Nat.le_mul_of_pos_right _ hc⟩
theorem fr_bd {n : Nat} {i j : Int} (hj : j ≠ 0) (a : Bd n i) (b : Bd n j) : Bd n (fr i j).1 ∧ Bd n (fr i j).2 := ⟨a.le (fr_le hj).1, b.le (fr_le hj).2⟩
theorem co_dvd {a b d : Int} (g : Int.gcd a b = 1) (h : b ∣ a * d) : b ∣ d := by
  have h1 : b.natAbs ∣ a.natAbs * d.natAbs := by
    rw [← Int.natAbs_mul]
    exact Int.natAbs_dvd_natAbs.mpr h
  have h2 : Nat.Coprime b.natAbs a.natAbs := by
    rw [Nat.coprime_comm]
    exact g
  exact Int.natAbs_dvd_natAbs.mp (Nat.Coprime.dvd_of_dvd_mul_left h2 h1)
/-- lowest terms are told once -/
theorem low_uniq {a b c d : Int} (hb : 0 < b) (hd : 0 < d) (g1 : Int.gcd a b = 1) (g2 : Int.gcd c d = 1) (h : a * d = c * b) : a = c ∧ b = d := by
  have d1 : b ∣ d := by
    have : b ∣ a * d := ⟨c, by rw [h, Int.mul_comm]⟩
    exact co_dvd g1 this
  have d2 : d ∣ b := by
    have : d ∣ c * b := ⟨a, by rw [← h, Int.mul_comm]⟩
    exact co_dvd g2 this
  have e : b = d := Int.dvd_antisymm (by omega) (by omega) d1 d2
  subst e
  exact ⟨Int.eq_of_mul_eq_mul_right (by omega) h, rfl⟩
def isFrac : PyData → Bool
  | .tuple [.int a, .int b] => decide (1 ≤ b) && decide (Int.gcd a b = 1)
  | _ => false
theorem isFrac_len {xs : List PyData} (h : xs.length ≠ 2) : isFrac (.tuple xs) = false := by
  unfold isFrac
  split
  · simp_all
  · rfl
theorem isFrac_one {p q : PyData} (h : isWhole p = false) : isFrac (.tuple [p, q]) = false := by
  unfold isFrac
  split
  · simp_all [isWhole]
  · rfl
theorem isFrac_two {p q : PyData} (h : isWhole q = false) : isFrac (.tuple [p, q]) = false := by
  unfold isFrac
  split
  · simp_all [isWhole]
  · rfl
theorem isFrac_kind {p : PyData} (h : isTup p = false) : isFrac p = false := by
  unfold isFrac
  split
  · simp_all [isTup]
  · rfl
theorem eqv_int (i j : Int) : PyData.eqv (.int i) (.int j) = decide (i = j) := by
  rw [PyData.eqv]
  by_cases h : i = j
  · subst h; simp
  · simp [h]
theorem shaped_int (i : Int) : SeqAt.shaped (.int i) = true := by simp [SeqAt.shaped, PyData.canLay0, PyData.depth]
end Hc

namespace Hc
open PySem PySem.Spec PyProof.Rows L2
/-! ### a tuple times one is itself -/
theorem tuple_mul1 (l : Addr) (items : Array Value) (n : Nat) (dd : Option Addr) (sl : Array (Option Value)) (u : Tok) :
    Meets (Builtin.«tuple.__mul__» ⟨[.ref l, .int 1 u], []⟩) (fun _ R s => s.heap.get? l = some { cls := .type "tuple", dict := dd, data := .seq items n, slots := sl } ∧ R (.ok (.ret (.ref l))) s) :=
  .of_wp fun prog w A R s h => by
    obtain ⟨hp, g, d, tk, os⟩ := s
    obtain ⟨hl, h⟩ := h
    have f1 := AutoSeq1.idx_int
    have c1 : (items.isEmpty || (1 : Int) == 1) = true := by simp
    wp_walk using wpAny_loadPart' hl
    repeat (first
      | (refine wpAny_ite_false (by decide) ?_; wp_walk using wpAny_loadPart' hl)
      | (refine wpAny_ite_true (decide_eq_true c1) ?_; wp_walk using wpAny_loadPart' hl))
    all_goals first | exact ⟨_, rfl, h⟩ | skip
def rRepQ (K : PySem.W.Frag) : R2 := fun x y H Q => (∃ l xs, x = .ref l ∧ y = .int 1 ∧ SqT K H l xs ∧ Q (.ref l) H) ∨ rRepT K x y H Q
theorem op_repQ {X : Cx} : OpR X (binaryOp .Mult) (rRepQ X.K) := by
  intro pins s σ H x y v u Q I rx ry h
  rcases h with ⟨l, xs, rfl, rfl, hT, q⟩ | h
  · cases rx
    obtain ⟨t, rfl⟩ := ry
    obtain ⟨its, r, ⟨⟨cls, dd, data, sl⟩, ho, hc, n, hd⟩, hs⟩ := I.tuple hT
    simp only at hc hd
    subst hc hd
    exact wpAny_binaryOp_repeat_ref (T := "tuple") (U := "int") (by decide) ⟨_, ho, rfl⟩
      (fun s' => typeIs_int s' 1 t) noFill_tuple_mul F.fills_int_mul F.slot_int_rmul repeat_tuple
      F.slot_int_index.lookup
      (call_meets F.slot_int_rmul (typeIs_int s 1 t) F.entry_int_rmul (F.args_int_rmul_2 _ _)
        (int_rmul_tuple 1 t l its.toArray n dd sl) ⟨ho, rfl, ⟨_, ho, rfl⟩,
          call_meets F.slot_tuple_mul ⟨_, ho, rfl⟩ F.entry_tuple_mul (F.args_tuple_mul_2 _ _)
            (tuple_mul1 l its.toArray n dd sl t) ⟨ho, ⟨.ref l, H, I, rfl, q⟩⟩⟩)
  · exact op_repT pins s σ H x y v u Q I rx ry h
section
variable {K : PySem.W.Frag} {te ta tb tc tl : TE} {tt : TT} {tA : TA} {ds : List SD} {ms : List MD} {R : RS} {t u : TS} {P : Po}
theorem rr_rep1 {a b : SD} (h : ∃ (e : PyData) (k : Int), a = .d (.tuple [e]) ∧ b = .d (.int k) ∧ 1 ≤ k ∧ k ≤ 1000 ∧ R (.d (.tuple (List.replicate k.toNat e))) ms) : RR K (rRepQ K) a b ms R := fun L M H x y hA ha hb Q q => by
  obtain ⟨e, k, rfl, rfl, h1, h2, r⟩ := h
  cases hb
  have ha2 : Rp M H x (.tuple [e]) := ha
  cases ha2 with
  | @tup p xs _ np ep rp =>
    obtain ⟨v, rfl⟩ : ∃ v, xs = [v] := by
      cases rp with
      | cons z y => cases y; exact ⟨_, rfl⟩
    by_cases hk : k = 1
    · subst hk
      exact .inl ⟨p, [v], rfl, rfl, SqT.of ep, q (.d (.tuple [e])) _ H ms (Wk.refl L H) ⟨hA, ha⟩ r⟩
    · refine .inr ⟨p, k, [v], rfl, rfl, SqT.of ep, by simp, by omega, h2, by simp, fun l hl => ?_⟩
      have rr : ∀ m : Nat, RpA M H (List.replicate m [v]).flatten (List.replicate m e) := fun m => by
        induction m with
        | zero => exact .nil
        | succ m ih =>
          rw [List.replicate_succ, List.replicate_succ, List.flatten_cons]
          cases rp with
          | cons z y => exact .cons z ih
      exact q (.d (.tuple (List.replicate k.toNat e))) _ _ ms (Wk.new hl) ⟨hA.new hl, .tup (hA.fresh hl) upd_same (RpA.to (hA.wk (Wk.new hl)) _ _ (rr k.toNat))⟩ r
theorem rr_catT {a b : SD} (h : ∃ es fs, a = .d (.tuple es) ∧ b = .d (.tuple fs) ∧ es ≠ [] ∧ es.length + fs.length ≤ 10000 ∧ R (.d (.tuple (es ++ fs))) ms) : RR K (rCatT K) a b ms R := fun L M H x y hA ha hb Q q => by
  obtain ⟨es, fs, rfl, rfl, hne, hz, r⟩ := h
  have ha2 : Rp M H x (.tuple es) := ha
  have hb2 : Rp M H y (.tuple fs) := hb
  cases ha2 with
  | @tup p xs _ np ep rp =>
    cases hb2 with
    | @tup p2 ys _ np2 ep2 rp2 =>
      refine ⟨p, p2, xs, ys, rfl, rfl, SqT.of ep, SqT.of ep2, fun z => ?_, by rw [rp.length, rp2.length]; exact Nat.le_trans hz (by decide), fun z => ?_, fun z l hl => ?_⟩
      · subst z; cases rp; exact hne rfl
      · subst z
        cases rp2
        rw [List.append_nil] at r
        exact q (.d (.tuple es)) _ H ms (Wk.refl L H) ⟨hA, ha⟩ r
      · exact q (.d (.tuple (es ++ fs))) _ _ ms (Wk.new hl) ⟨hA.new hl, .tup (hA.fresh hl) upd_same (RpA.to (hA.wk (Wk.new hl)) _ _ (rp.append rp2))⟩ r
/-! ### slices -/
def EO (K : PySem.W.Frag) (to : TO) (ds : List SD) (ms : List MD) (R : Option Int → List MD → Prop) : Prop :=
  ∀ (L M : List Addr) (σ : L2.St) (H : Hp), Sl K L M σ H ds → At L M ms H → ∀ Q : Option Int → Hp → Prop, (∀ o H' ms', Wk L H H' → At L M ms' H' → R o ms' → Q o H') → to σ H Q
theorem eo_none {RO : Option Int → List MD → Prop} (r : RO none ms) : EO K tNoPart ds ms RO := fun L M σ H hS hA Q q => q none H ms (Wk.refl L H) hA r
theorem eo_some {RO : Option Int → List MD → Prop} (h : E K te ds ms fun s ms1 => ∃ i, s = .d (.int i) ∧ RO (some i) ms1) : EO K (tPart te) ds ms RO := fun L M σ H hS hA Q q =>
  h L M σ H hS hA _ fun s v H1 ms1 w o ⟨i, e, r⟩ => by
    subst e
    obtain ⟨a, z⟩ := o
    cases z
    exact ⟨i, rfl, q (some i) H1 ms1 w a r⟩
def cutD (es : List PyData) (lo hi : Option Int) : List PyData := (es.drop (HT.sIx es.length 0 lo)).take (HT.sIx es.length es.length hi - HT.sIx es.length 0 lo)
theorem cut_of {M : List Addr} {H : Hp} {xs : List V} {es : List PyData} (r : RpA M H xs es) (lo hi : Option Int) : RpA M H (cutV xs lo hi) (cutD es lo hi) := by
  unfold cutV cutD
  rw [r.length]
  exact (r.drop _).take _
theorem e_slL {to th : TO} (h : E K te ds ms fun s ms1 => EO K to ds ms1 fun lo ms2 => EO K th ds ms2 fun hi ms3 => ∃ es, Sv ms3 (dd s) (.list es) ∧ R (.f (cutD es lo hi)) ms3) : E K (tSl (rSlL K) te to th) ds ms R := fun L M σ H hS hA Q q =>
  h L M σ H hS hA _ fun s v H1 ms1 w1 o1 h1 => h1 L M σ H1 (hS.mono hA w1) o1.at _ fun lo H2 ms2 w2 a2 h2 => h2 L M σ H2 ((hS.mono hA w1).mono o1.at w2) a2 _ fun hi H3 ms3 w3 a3 ⟨es, sv, r⟩ => by
    obtain ⟨p, xs, rfl, hq, hr⟩ := sv.lst a3 ((o1.sl.mono o1.at w2).mono a2 w3)
    have w := (w1.trans w2).trans w3
    exact ⟨p, xs, rfl, hq, fun l hl => q (.f (cutD es lo hi)) _ _ ms3 (w.trans (Wk.new hl)) (out_new a3 w hl (cut_of hr lo hi)) r⟩
/-- a part of a tuple that is not the whole -/
theorem e_slT {to th : TO} (h : E K te ds ms fun s ms1 => EO K to ds ms1 fun lo ms2 => EO K th ds ms2 fun hi ms3 => ∃ es, s = .d (.tuple es) ∧ ¬ (HT.sIx es.length 0 lo = 0 ∧ HT.sIx es.length es.length hi = es.length) ∧ R (.d (.tuple (cutD es lo hi))) ms3) : E K (tSl (rSlT K) te to th) ds ms R := fun L M σ H hS hA Q q =>
  h L M σ H hS hA _ fun s v H1 ms1 w1 o1 h1 => h1 L M σ H1 (hS.mono hA w1) o1.at _ fun lo H2 ms2 w2 a2 h2 => h2 L M σ H2 ((hS.mono hA w1).mono o1.at w2) a2 _ fun hi H3 ms3 w3 a3 ⟨es, e, hn, r⟩ => by
    subst e
    have z := (o1.sl.mono o1.at w2).mono a2 w3
    obtain ⟨p, xs, rfl, e1, hr⟩ := Sv.tup (ms := ms3) (.d _) z
    have w := (w1.trans w2).trans w3
    refine ⟨p, xs, rfl, SqT.of e1, by rw [hr.length]; exact hn, fun l hl => ?_⟩
    exact q (.d (.tuple (cutD es lo hi))) _ _ ms3 (w.trans (Wk.new hl)) ⟨a3.new hl, .tup (a3.fresh hl) upd_same (RpA.to (a3.wk (Wk.new hl)) _ _ (cut_of hr lo hi))⟩ r
end
/-! ### data that == takes -/
def Shp (n : Nat) (d : PyData) : Prop := d.canLay0 = true ∧ d.depth ≤ n
theorem Shp.ok {n : Nat} {d : PyData} (h : Shp n d) (hn : n ≤ 64) : SeqAt.shaped d = true := by
  unfold SeqAt.shaped
  rw [h.1, decide_eq_true (Nat.le_trans h.2 hn)]
  rfl
theorem Shp.all {n : Nat} : ∀ {es : List PyData}, (∀ e ∈ es, Shp n e) → PyData.canLayAll0 es = true ∧ PyData.depthAll es ≤ n
  | [], _ => ⟨rfl, by simp [PyData.depthAll]⟩
  | e :: r, h => by
    have h1 := h e (by simp)
    have h2 := Shp.all (es := r) fun x hx => h x (by simp [hx])
    exact ⟨by simp [PyData.canLayAll0, h1.1, h2.1], by simp only [PyData.depthAll]; exact Nat.max_le.mpr ⟨h1.2, h2.2⟩⟩
theorem Shp.tup {n : Nat} {es : List PyData} (h : ∀ e ∈ es, Shp n e) : Shp (n + 1) (.tuple es) := by
  have := Shp.all h
  exact ⟨by simp [PyData.canLay0, this.1], by simp only [PyData.depth]; have := this.2; omega⟩
theorem Shp.lst {n : Nat} {es : List PyData} (h : ∀ e ∈ es, Shp n e) : Shp (n + 1) (.list es) := by
  have := Shp.all h
  exact ⟨by simp [PyData.canLay0, this.1], by simp only [PyData.depth]; have := this.2; omega⟩
theorem Shp.int (i : Int) : Shp 0 (.int i) := ⟨rfl, Nat.le_refl _⟩
theorem Shp.bl (i : Bool) : Shp 0 (.bool i) := ⟨rfl, Nat.le_refl _⟩
theorem Shp.mono {m n : Nat} {d : PyData} (h : Shp m d) (l : m ≤ n) : Shp n d := ⟨h.1, Nat.le_trans h.2 l⟩
theorem Shp.ints (ns : List Int) : ∀ e ∈ ns.map PyData.int, Shp 0 e := fun e he => by
  obtain ⟨i, _, rfl⟩ := List.mem_map.mp he
  exact .int i
theorem Shp.pr (p : Int × Int) : Shp 1 (pr p) := Shp.tup fun e he => by
  simp at he
  rcases he with rfl | rfl <;> exact .int _
theorem eqv_self {n : Nat} {d : PyData} (h : Shp n d) : PyData.eqv d d = true := SeqAt.eqv_refl d h.1
theorem eqv_bl (a b : Bool) : PyData.eqv (.bool a) (.bool b) = decide (a = b) := by cases a <;> cases b <;> rfl
/-! ### fractions as numbers -/
def val (p : Int × Int) : Rat := (p.1 : Rat) / (p.2 : Rat)
theorem cast_ne {b : Int} (h : b ≠ 0) : (b : Rat) ≠ 0 := by exact_mod_cast h
theorem val_fr {i j : Int} (h : j ≠ 0) : val (fr i j) = (i : Rat) / (j : Rat) := by
  have hc := fr_cross (i := i) h
  have hp := fr_pos (i := i) h
  unfold val
  have h1 : ((fr i j).2 : Rat) ≠ 0 := cast_ne (by omega)
  have h2 : (j : Rat) ≠ 0 := cast_ne h
  have h3 : ((fr i j).1 : Rat) * (j : Rat) = (i : Rat) * ((fr i j).2 : Rat) := by
    rw [← Rat.intCast_mul, ← Rat.intCast_mul, hc]
  grind
structure Lo (p : Int × Int) : Prop where
  pos : 0 < p.2
  low : Int.gcd p.1 p.2 = 1
theorem Lo.fr {i j : Int} (h : j ≠ 0) : Lo (fr i j) := ⟨fr_pos h, fr_low h⟩
theorem Lo.eq {p q : Int × Int} (a : Lo p) (b : Lo q) (h : val p = val q) : p = q := by
  unfold val at h
  have h1 : (p.2 : Rat) ≠ 0 := cast_ne (by have := a.pos; omega)
  have h2 : (q.2 : Rat) ≠ 0 := cast_ne (by have := b.pos; omega)
  have h3 : (p.1 : Rat) * (q.2 : Rat) = (q.1 : Rat) * (p.2 : Rat) := by grind
  rw [← Rat.intCast_mul, ← Rat.intCast_mul] at h3
  have h4 : p.1 * q.2 = q.1 * p.2 := by exact_mod_cast h3
  obtain ⟨e1, e2⟩ := low_uniq a.pos b.pos a.low b.low h4
  exact Prod.ext e1 e2
def pl (t f : Int × Int) : Int × Int := fr (t.1 * f.2 + f.1 * t.2) (t.2 * f.2)
theorem pl_lo {t f : Int × Int} (a : t.2 ≠ 0) (b : f.2 ≠ 0) : Lo (pl t f) := Lo.fr (Int.mul_ne_zero a b)
theorem pl_val {t f : Int × Int} (a : t.2 ≠ 0) (b : f.2 ≠ 0) : val (pl t f) = val t + val f := by
  unfold pl
  rw [val_fr (Int.mul_ne_zero a b)]
  unfold val
  have h1 : (t.2 : Rat) ≠ 0 := cast_ne a
  have h2 : (f.2 : Rat) ≠ 0 := cast_ne b
  rw [Rat.intCast_add, Rat.intCast_mul, Rat.intCast_mul, Rat.intCast_mul]
  grind
def sumF (fs : List (Int × Int)) : Int × Int := fs.foldl pl (0, 1)
def sumV (fs : List (Int × Int)) : Rat := (fs.map val).sum
structure Wt (p : Int × Int) : Prop where
  lo : Lo p
  b1 : Bd 32 p.1
  b2 : Bd 10 p.2
theorem foldl_snoc (fs : List (Int × Int)) (f : Int × Int) : sumF (fs ++ [f]) = pl (sumF fs) f := by
  unfold sumF
  rw [List.foldl_append]
  rfl
theorem lo01 : Lo (0, 1) := ⟨by decide, by decide⟩
theorem sumF_lo : ∀ (fs : List (Int × Int)), (∀ f ∈ fs, f.2 ≠ 0) → Lo (sumF fs) ∧ val (sumF fs) = sumV fs := by
  intro fs
  have gen : ∀ (fs : List (Int × Int)) (t : Int × Int), Lo t → (∀ f ∈ fs, f.2 ≠ 0) → Lo (fs.foldl pl t) ∧ val (fs.foldl pl t) = val t + sumV fs := by
    intro fs
    induction fs with
    | nil =>
      intro t ht _
      refine ⟨ht, ?_⟩
      show val t = val t + 0
      grind
    | cons f r ih =>
      intro t ht h
      have hf := h f (by simp)
      have ht2 : t.2 ≠ 0 := by have := ht.pos; omega
      have := ih (pl t f) (pl_lo ht2 hf) fun x hx => h x (by simp [hx])
      refine ⟨this.1, ?_⟩
      show val (r.foldl pl (pl t f)) = _
      rw [this.2, pl_val ht2 hf]
      show _ = val t + (val f + sumV r)
      grind
  intro h
  have := gen fs (0, 1) lo01 h
  refine ⟨this.1, ?_⟩
  show val (fs.foldl pl (0, 1)) = _
  rw [this.2]
  have : val (0, 1) = 0 := by
    show ((0 : Int) : Rat) / ((1 : Int) : Rat) = 0
    grind
  rw [this]
  grind
theorem fold_bd : ∀ (fs : List (Int × Int)) (t : Int × Int) (a b : Nat), b ≤ a → t.2 ≠ 0 → Bd a t.1 → Bd b t.2 → (∀ f ∈ fs, f.2 ≠ 0 ∧ Bd 32 f.1 ∧ Bd 10 f.2) → Bd (a + 44 * fs.length) (fs.foldl pl t).1 ∧ Bd (b + 10 * fs.length) (fs.foldl pl t).2 := by
  intro fs
  induction fs with
  | nil => intro t a b _ _ h1 h2 _; exact ⟨h1, h2⟩
  | cons f r ih =>
    intro t a b hab h0 h1 h2 h
    obtain ⟨f0, f1, f2⟩ := h f (by simp)
    have hne := Int.mul_ne_zero h0 f0
    have x1 : Bd (a + 43) (t.1 * f.2) := (h1.mul f2).mono (by omega)
    have x2 : Bd (a + 43) (f.1 * t.2) := (f1.mul h2).mono (by omega)
    have b1 : Bd (a + 44) (t.1 * f.2 + f.1 * t.2) := x1.add x2
    have b2 : Bd (b + 10) (t.2 * f.2) := h2.mul f2
    have c1 : Bd (a + 44) (pl t f).1 := b1.le (fr_le hne).1
    have c2 : Bd (b + 10) (pl t f).2 := b2.le (fr_le hne).2
    have p2 := fr_pos (i := t.1 * f.2 + f.1 * t.2) hne
    have := ih (pl t f) (a + 44) (b + 10) (by omega) (by show (fr _ _).2 ≠ 0; omega) c1 c2 fun x hx => h x (by simp [hx])
    have e1 : a + 44 + 44 * r.length = a + 44 * (f :: r).length := by simp; omega
    have e2 : b + 10 + 10 * r.length = b + 10 * (f :: r).length := by simp; omega
    rw [e1, e2] at this
    exact this
theorem fold_ne : ∀ (fs : List (Int × Int)) (t : Int × Int), t.2 ≠ 0 → (∀ f ∈ fs, f.2 ≠ 0) → (fs.foldl pl t).2 ≠ 0 := by
  intro fs
  induction fs with
  | nil => intro t h _; exact h
  | cons f r ih =>
    intro t h0 h
    have hf := h f (by simp)
    exact ih (pl t f) (by have := (pl_lo h0 hf).pos; omega) fun x hx => h x (by simp [hx])
theorem pl_zero {p : Int × Int} (h : Lo p) : pl (0, 1) p = p := by
  have hp : p.2 ≠ 0 := by have := h.pos; omega
  refine Lo.eq (pl_lo (by decide) hp) h ?_
  rw [pl_val (by decide) hp]
  have : val (0, 1) = 0 := by
    show ((0 : Int) : Rat) / ((1 : Int) : Rat) = 0
    grind
  rw [this]
  grind
theorem take_snoc {α : Type} {l : List α} {i : Nat} {x : α} (h : l[i]? = some x) : l.take (i + 1) = l.take i ++ [x] := by
  rw [List.take_add_one, h]
  rfl
theorem wt_ok {f : Int × Int} (h : Wt f) : f.2 ≠ 0 ∧ Bd 32 f.1 ∧ Bd 10 f.2 := ⟨by have := h.lo.pos; omega, h.b1, h.b2⟩
/-! ### webs -/
abbrev Tie := Nat × Nat × (Int × Int)
abbrev encT (t : Tie) : PyData := .tuple [.int t.1, .int t.2.1, pr t.2.2]
abbrev encW (m : Nat) (ts : List Tie) : PyData := .tuple [.int m, .tuple (ts.map encT)]
structure TieOk (m : Nat) (t : Tie) : Prop where
  lt : t.1 < t.2.1
  lm : t.2.1 < m
  w : Wt t.2.2
structure WebOk (m : Nat) (ts : List Tie) : Prop where
  all : ∀ t ∈ ts, TieOk m t
  len : ts.length ≤ 170
  m1 : 1 ≤ m
  m60 : m ≤ 60
abbrev encS (sd : List Int) : PyData := .tuple (sd.map .int)
abbrev encN (ns : List Nat) : List PyData := ns.map fun (n : Nat) => PyData.int (n : Int)
def tie0 : Tie := (0, 0, (0, 1))
def cutB (sd : List Int) (t : Tie) : Bool := !decide (sd.getD t.1 0 = sd.getD t.2.1 0)
def gainB (t : Tie) : Bool := decide (0 < t.2.2.1)
def lostB (sd : List Int) (t : Tie) : Bool := !decide (cutB sd t = gainB t)
def nums (p : Tie → Bool) (ts : List Tie) (n : Nat) : List Nat := (List.range n).filter fun i => p (ts.getD i tie0)
theorem nums_yes {p : Tie → Bool} {ts : List Tie} {n : Nat} (h : p (ts.getD n tie0) = true) : nums p ts (n + 1) = nums p ts n ++ [n] := by
  unfold nums
  rw [List.range_succ, List.filter_append, List.filter_cons, if_pos h]
  rfl
theorem nums_no {p : Tie → Bool} {ts : List Tie} {n : Nat} (h : p (ts.getD n tie0) = false) : nums p ts (n + 1) = nums p ts n := by
  unfold nums
  rw [List.range_succ, List.filter_append, List.filter_cons, if_neg (by rw [h]; decide)]
  show _ ++ [] = _
  rw [List.append_nil]
theorem nums_map (p : Tie → Bool) (ts : List Tie) : ∀ n, n ≤ ts.length → (nums p ts n).map (fun i => ts.getD i tie0) = (ts.take n).filter p
  | 0, _ => rfl
  | n + 1, h => by
    have ih := nums_map p ts n (by omega)
    have hn : n < ts.length := by omega
    have e : ts.getD n tie0 = ts[n] := by simp [List.getD, hn]
    rw [List.take_add_one, List.getElem?_eq_getElem hn, List.filter_append]
    cases q : p (ts.getD n tie0) with
    | true =>
      rw [nums_yes q, List.map_append, ih]
      rw [e] at q
      have e' : ts[n]?.getD tie0 = ts[n] := by simp [hn]
      simp [q, e']
    | false =>
      rw [nums_no q, ih]
      rw [e] at q
      simp [q]
theorem nums_all (p : Tie → Bool) (ts : List Tie) : (nums p ts ts.length).map (fun i => ts.getD i tie0) = ts.filter p := by
  rw [nums_map p ts ts.length (Nat.le_refl _), List.take_length]
theorem nums_lt {p : Tie → Bool} {ts : List Tie} {n i : Nat} (h : i ∈ nums p ts n) : i < n := by
  unfold nums at h
  have := (List.mem_filter.mp h).1
  simpa using this
theorem nums_len (p : Tie → Bool) (ts : List Tie) (n : Nat) : (nums p ts n).length ≤ n := by
  unfold nums
  have := List.length_filter_le (fun i => p (ts.getD i tie0)) (List.range n)
  simpa using this
theorem get1 (ms : List MD) (A : MD) : (ms ++ [A])[ms.length]? = some A := by simp
theorem set1 (ms : List MD) (A X : MD) : (ms ++ [A]).set ms.length X = ms ++ [X] := by
  rw [List.set_append_right _ _ (Nat.le_refl _), Nat.sub_self]
  rfl
theorem get2a (ms : List MD) (A B : MD) : (ms ++ [A] ++ [B])[ms.length]? = some A := by
  rw [List.getElem?_append_left (by simp)]
  exact get1 ms A
theorem get2b (ms : List MD) (A B : MD) : (ms ++ [A] ++ [B])[ms.length + 1]? = some B := by
  have := get1 (ms ++ [A]) B
  rw [List.length_append] at this
  exact this
theorem set2a (ms : List MD) (A B X : MD) : (ms ++ [A] ++ [B]).set ms.length X = ms ++ [X] ++ [B] := by
  rw [List.set_append_left _ _ (by simp), set1]
theorem set2b (ms : List MD) (A B X : MD) : (ms ++ [A] ++ [B]).set (ms.length + 1) X = ms ++ [A] ++ [X] := by
  have := set1 (ms ++ [A]) B X
  rw [List.length_append] at this
  exact this
theorem tie_at {ts : List Tie} {i : Nat} (h : i < ts.length) : (ts.map encT)[i]? = some (encT (ts.getD i tie0)) := by
  rw [List.getElem?_map, List.getElem?_eq_getElem h]
  simp [List.getD, h]
theorem getD_mem {ts : List Tie} {i : Nat} (h : i < ts.length) : ts.getD i tie0 ∈ ts := by
  simp [List.getD, h]
theorem side_at {sd : List Int} {i : Nat} (h : i < sd.length) : (sd.map PyData.int)[i]? = some (.int (sd.getD i 0)) := by
  rw [List.getElem?_map, List.getElem?_eq_getElem h]
  simp [List.getD, h]
section
variable {K : PySem.W.Frag} {te ta tb tc tl : TE} {tt : TT} {tA : TA} {ds : List SD} {ms : List MD} {R : RS} {t u : TS} {P : Po}
/-- a statement, then what holds behind it, then the rest -/
theorem s_mid (Mid : List SD → List MD → Prop) (h1 : S K t ds ms { P with nx := Mid }) (h2 : ∀ ds1 ms1, Mid ds1 ms1 → S K u ds1 ms1 P) : S K (tSeq t u) ds ms P := fun L M σ H hS hA D n r b c =>
  h1 L M σ H hS hA { D with nx := u D } (fun σ1 H1 ds1 ms1 w s1 a1 h => h2 ds1 ms1 h L M σ1 H1 s1 a1 D (n.on w) (r.on a1 w) (b.on w) (c.on w)) r b c
/-- a comprehension over a list of ints that may change, but doesn't meanwhile -/
theorem e_lcM {g : TG} {js vs : List Nat} (hj : ∀ j ∈ js, j ∈ vs) (h : E K tl ds ms fun s ms0 => ∃ (k : Nat) (ns : List Int), s = .m k ∧ ns.length ≤ 10000 ∧ ∃ Pv : Nat → List PyData → List MD → Prop, Pv 0 [] ms0 ∧
      (∀ i acc ms1, Pv i acc ms1 → ms1[k]? = some (.l (ns.map .int))) ∧
      (∀ i e acc ms1, ns[i]? = some e → Pv i acc ms1 → Lt K g js tt te vs ds (.d (.int e)) ms1 acc (Pv (i + 1))) ∧ ∀ acc ms1, Pv ns.length acc ms1 → R (.f acc) ms1) :
    E K (tLc (iList K tl) g tt te vs) ds ms R := fun L M σ H hS hA Q q =>
  h L M σ H hS hA _ fun s v H1 ms0 w o ⟨k, ns, e, hz, Pv, h0, hk, hs, hd⟩ => by
    subst e
    obtain ⟨a1, p, rfl, hp⟩ := o
    have sq : ∀ {M' : List Addr} {ms' : List MD} {H' : Hp}, At L M' ms' H' → ms'[k]? = some (.l (ns.map .int)) → SqL K H' p (ns.map V.int) := fun {M' ms' H'} a' e' => by
      obtain ⟨xs, e1, r1⟩ := a'.get hp e'
      rw [RpA.ints_inv r1] at e1
      exact SqL.of e1
    refine ⟨p, rfl, ⟨_, sq a1 (hk 0 [] ms0 h0)⟩, fun D hD => ?_⟩
    have hDL := a1.freshL hD
    refine lc_list (xs := ns.map V.int) (fun i H' => ∃ acc ms', Cs L M H1 D i acc ms' H' ∧ Pv i acc ms') ⟨[], ms0, .start a1 hD, h0⟩ (fun i H' _ ⟨_, _, c, pv⟩ => sq c.a (hk _ _ _ pv)) (fun i x H' hi ⟨acc, ms', c, pv⟩ => ?_) (fun H' ⟨acc, ms', c, pv⟩ => ?_)
    · rw [List.getElem?_map] at hi
      cases e : ns[i]? with
      | none => rw [e] at hi; cases hi
      | some n =>
        rw [e] at hi
        cases hi
        have hl := (List.getElem?_eq_some_iff.mp e).1
        exact lc_turn (x := .d (.int n)) (v := .int n) (Nn := Pv) hj (by omega) (hS.mono hA w) a1 hD c (.int n) (hs i n acc ms' e pv)
    · rw [List.length_map] at pv
      exact q (.f acc) _ H' ms' (w.trans c.w) ⟨D, rfl, none_back a1 w (a1.fresh hD) hD, a1.fresh hD, c.done a1.sub hDL, a1.sub⟩ (hd acc ms' pv)
end
end Hc

namespace Hc
open PySem PySem.Spec PyProof.Rows L2
/-! ### errors -/
abbrev PhX := List SD → List MD → RS → (List MD → Prop) → Prop
/-- a def that hands back, or raises the class at C -/
def SpX (K : PySem.W.Frag) (C : Addr) (Φ : PhX) : Sp := fun vs H Q X => ∃ L M ms as R Y, At L M ms H ∧ SlsOk K L M H as vs ∧ Φ as ms R Y ∧ (∀ s v H' ms', Wk L H H' → Out K L M H H' ms' v s → R s ms' → Q v H') ∧ ∀ H' ms', Wk L H H' → At L M ms' H' → Y ms' → X (.ref C) none H'
def Ex (L M : List Addr) (H : Hp) (C : Addr) (Y : List MD → Prop) (X : XK) : Prop := ∀ H' ms', Wk L H H' → At L M ms' H' → Y ms' → X (.ref C) none H'
def SX (K : PySem.W.Frag) (C : Addr) (t : XK → TS) (ds : List SD) (ms : List MD) (P : Po) (Y : List MD → Prop) : Prop :=
  ∀ (L M : List Addr) (σ : L2.St) (H : Hp), Sl K L M σ H ds → At L M ms H → ∀ (D : Ends) (X : XK), Nx K L M H P.nx D.nx → Rx K L M H P.rt D.rt → Nx K L M H P.bk D.bk → Nx K L M H P.ct D.ct → Ex L M H C Y X → t X D σ H
section
variable {K : PySem.W.Frag} {C : Addr} {te ta tb tc tl : TE} {tt : TT} {tA : TA} {ds : List SD} {ms : List MD} {R : RS} {P : Po} {Y : List MD → Prop}
theorem Ex.on {L M : List Addr} {H H1 : Hp} {X : XK} (w : Wk L H H1) (h : Ex L M H C Y X) : Ex L M H1 C Y X := fun H' ms' w2 => h H' ms' (w.trans w2)
theorem sx_of {t : TS} (h : S K t ds ms P) : SX K C (fun _ => t) ds ms P Y := fun L M σ H hS hA D X n r b c _ => h L M σ H hS hA D n r b c
theorem sx_seq {t u : XK → TS} (h : SX K C t ds ms { P with nx := fun ds1 ms1 => SX K C u ds1 ms1 P Y } Y) : SX K C (fun X => tSeq (t X) (u X)) ds ms P Y := fun L M σ H hS hA D X n r b c x =>
  h L M σ H hS hA { D with nx := u X D } X (fun σ1 H1 ds1 ms1 w s1 a1 h1 => h1 L M σ1 H1 s1 a1 D X (n.on w) (r.on a1 w) (b.on w) (c.on w) (x.on w)) r b c x
theorem sx_if {t u : XK → TS} (h : ET K tt ds ms fun b ms1 => (b = true → SX K C t ds ms1 P Y) ∧ (b = false → SX K C u ds ms1 P Y)) : SX K C (fun X => tIfS tt (t X) (u X)) ds ms P Y := fun L M σ H hS hA D X n r b c x =>
  h L M σ H hS hA _ fun k H1 ms1 w a ⟨h1, h2⟩ => by
    cases k with
    | true => exact h1 rfl L M σ H1 (hS.mono hA w) a D X (n.on w) (r.on a w) (b.on w) (c.on w) (x.on w)
    | false => exact h2 rfl L M σ H1 (hS.mono hA w) a D X (n.on w) (r.on a w) (b.on w) (c.on w) (x.on w)
/-- raise -/
def tRs (C : Addr) (X : XK) : TS := fun _ σ H => (fun (cls : Value) (d : Option Addr) (H' : Hp) => (fun (c : Value) (d : Option Addr) (_ : L2.St) (H : Hp) => X c d H) cls d σ H') (.ref C) none H
theorem sx_raise (h : Y ms) : SX K C (tRs C) ds ms P Y := fun L M σ H hS hA D X n r b c x => x H ms (Wk.refl L H) hA h
theorem kit_up {D : Addr} (hc : (PySem.W.clsIn K D).isSome = true) (ht : PySem.W.typeIn K (.ref D) = some (.type "type")) (hs : PySem.W.subIn K (.ref C) (.ref D) = some true) : PySem.W.kitOne K (.ref C) (.ref D) = some true := by
  unfold PySem.W.kitOne
  by_cases e : ((Value.ref C == Value.ref D) = true)
  · rw [if_pos e]
  · rw [if_neg e]
    show (if _ then _ else _) = _
    rw [hc, ht, hs]
    rfl
theorem kit_upT {T : String} (hm : PySem.W.kitMeta T = true) (hs : PySem.W.subIn K (.ref C) (.type T) = some true) : PySem.W.kitOne K (.ref C) (.type T) = some true := by
  unfold PySem.W.kitOne
  rw [if_neg (by simp)]
  show (if _ then _ else _) = _
  rw [if_pos hm, hs]
/-- a class of one's own over ValueError -/
structure Er (K : PySem.W.Frag) (mg : Str → Option Value) (x : Str) (C : Addr) : Prop where
  g : mg x = some (.ref C)
  x : PySem.W.excIn K C [.type "ValueError", .type "Exception", .type "BaseException", .type "object"] "ValueError.__new__" = true
  k : PySem.W.keepIn K (.ref C) = true
  b : PySem.W.subIn K (.ref C) (.type "BaseException") = some true
  t : PySem.W.typeIn K (.ref C) = some (.type "type")
  s : PySem.W.subIn K (.ref C) (.ref C) = some true
  e : ExcC K C
theorem ps_raiseD {X : Cx} {x m : Str} {j : Nat} {p p2 pos pos' : Pos} {E₁ : Value → Shared → Prop} {Y : XK} (e : Er X.K X.mg x C) (hc : X.calm = true) (hs : X.stack = X.env :: X.outer) (hf : X.env.frame = some X.env.locals) (hex : X.ex = [])
    (hx : X.xe = fun e s' => wpAny (model X.prog X.w) X.A (leaving X.env e) (fun _ s'' => L2.CX X.prog X.w X.outer X.H_0 X.s_0 Y e s'') E₁ s') (hg : Gl X x) (hdb : (x == ("__debug__" : Str)) = false := by decide) :
    PS X (.Raise (some (.Call (.Name x p) [.Constant (.str m) j p2] [] pos)) none pos') (tRs C Y) :=
  ps_raise hc (takes_of hs hf hex hx) (pmk_own PySem.F.excBase_ValueError e.x e.g e.k (raises_own e.b e.t) hg hdb)
/-- a def that may raise, by name -/
structure KnX (Pg : Program) (w : World) (K : PySem.W.Frag) (mg : Str → Option Value) (base : Heap) (x : Str) (lv : Nat) (ps : List Str) (C : Addr) (Φ : PhX) : Prop where
  ex : ∃ f fd, FnOk Pg w K mg base (L2.CX Pg w) lv f fd ps (SpX K C Φ) ∧ mg x = some (.ref f) ∧ PySem.W.keepIn K (.ref f) = true ∧ Binds K fd ps []
theorem pe_callX {X : Cx} {x : Str} {lv : Nat} {ps : List Str} {Φ : PhX} {W : WX} {e : Expr} {es : List Expr} {t : TA} {p pos : Pos} (h : KnX X.prog X.w X.K X.mg X.base x lv ps C Φ) (hr : Room lv X.A) (hg : Gl X x) (tk : Takes X W) (ha : PA X (e :: es) t)
    (hdb : (x == ("__debug__" : Str)) = false := by decide) (he : starEach (e :: es) X.env = (false, eval e X.env) :: starEach es X.env := by rfl) (hpl : (backTo pos (starEach es X.env)).any (·.1) = false := by rfl) :
    PE X (.Call (.Name x p) (e :: es) [] pos) (tCallS (SpX X.K C Φ) (WE W) t) := by
  obtain ⟨f, fd, G, m, k, b⟩ := h.ex
  exact pe_callS G hr hg m k b (fun σ => passAt tk σ) ha hdb he hpl
/-- in a place where it raises nothing -/
theorem pe_callX0 {X : Cx} {x : Str} {lv : Nat} {ps : List Str} {Φ : PhX} {e : Expr} {es : List Expr} {t : TA} {p pos : Pos} (h : KnX X.prog X.w X.K X.mg X.base x lv ps C Φ) (hr : Room lv X.A) (hg : Gl X x) (ha : PA X (e :: es) t)
    (hdb : (x == ("__debug__" : Str)) = false := by decide) (he : starEach (e :: es) X.env = (false, eval e X.env) :: starEach es X.env := by rfl) (hpl : (backTo pos (starEach es X.env)).any (·.1) = false := by rfl) :
    PE X (.Call (.Name x p) (e :: es) [] pos) (tCall (SpX X.K C Φ) [] E0 t) := by
  obtain ⟨f, fd, G, m, k, b⟩ := h.ex
  exact pe_call G hr hg m k b .nil passL ha hdb he hpl
theorem e_callX0 {Φ : PhX} (h : EA K tA ds ms fun as ms1 => Φ as ms1 R fun _ => False) : E K (tCall (SpX K C Φ) [] E0 tA) ds ms R := fun L M σ H hS hA Q q =>
  h L M σ H hS hA _ fun as vs H1 ms1 w1 a1 o1 h1 => by
    rw [List.append_nil]
    exact ⟨L, M, ms1, as, R, fun _ => False, a1, o1, h1, fun s v H3 ms3 w3 o3 r3 => q s v H3 ms3 (w1.trans w3) (o3.back a1 w1) r3, fun _ _ _ _ z => z.elim⟩
theorem okX_of {Pg : Program} {w : World} {mg : Str → Option Value} {base : Heap} {x qual : Str} {st : Stmt} {f : Addr} {fd : FuncData} {N ps : List Str} {k : Nat} {Φ : PhX} (F : Fun K x qual st f fd) (Sc : FnScope N ps (defScope st)) (hl : ∀ as ms R Y, Φ as ms R Y → as.length = ps.length) (hpn : ps.length ≤ N.length)
    (t : XK → TS) (hbody : ∀ (cdv : Value) (A : Around) (outer : List Env) (s : Shared) (H : Hp) (E : XK), Room k (A.deeper (envOfC qual (defScope st) s.heap.objs.size f cdv)) → PSs (cxOf (L2.CX Pg w) Pg w K mg base N qual (defScope st) f cdv A outer s H E) (defBody st) (t E))
    (h2 : ∀ as ms R Y, Φ as ms R Y → SX K C t (as ++ List.replicate (N.length - as.length) .u) ms (fin R) Y) : FnOk Pg w K mg base (L2.CX Pg w) (k + 1) f fd ps (SpX K C Φ) := by
  refine F.okX Sc (fun vs H Q E h => ?_) (fun cdv A outer s H vs Q E hr h => ⟨t E, hbody cdv A outer s H E hr, ?_⟩)
  · obtain ⟨L, M, ms, as, R, Y, hA, ho, hp, q⟩ := h
    rw [← ho.len]
    exact hl as ms R Y hp
  · obtain ⟨L, M, ms, as, R, Y, hA, ho, hp, q, x⟩ := h
    exact h2 as ms R Y hp L M _ H (Sl.start ho (by rw [hl as ms R Y hp]; exact hpn)) hA _ E (fun σ' H' ds' ms' w s a r => q (.d .none) .non H' ms' w ⟨a, .non⟩ r) (fun s v H' ms' w o r => q s v H' ms' w o r) (fun _ _ _ _ _ _ _ z => z.elim) (fun _ _ _ _ _ _ _ z => z.elim) x
/-! ### try .. except X as n -/
/-- a suite that is for the class at C alone -/
def tSu (C : Addr) (cls : Value) (d : Option Addr) (t : TS) : TS := fun D σ H => (cls = .ref C ∧ d = none) ∧ t D σ H
theorem pss_su {X : Cx} {cls : Value} {d : Option Addr} {st : List Stmt} {t : TS} (h : cls = .ref C → d = none → PSs X st t) : PSs X st (tSu C cls d t) := ⟨fun pins s σ H D I q => by
  obtain ⟨⟨e1, e2⟩, q⟩ := q
  exact (h e1 e2).run pins s σ H D I q⟩
/-- the whole: a call in the try, dropped; ts: the suite by the error's own address -/
def tTry (K : PySem.W.Frag) (C : Addr) (i : Nat) (te : WX → TE) (ts : Addr → TS) : TS := fun D σ H => tDrop (te (wAs K (.ref C) i (fun a cls d => tSu C cls d (ts a)) (fun _ _ _ _ => False) D)) D σ H
theorem s_try {i : Nat} {Φ : PhX} {ts : Addr → TS} (hm : PySem.W.exmOne K (.ref C) (.ref C) = some true) (h : EA K tA ds ms fun as ms1 => Φ as ms1 (fun _ ms2 => P.nx ds ms2) fun ms2 => ∀ a, S K (ts a) (ds.set i (.v (.ref a))) ms2 { nx := fun ds' ms' => P.nx (ds'.set i .u) ms', rt := P.rt, bk := fun ds' ms' => P.bk (ds'.set i .u) ms', ct := fun ds' ms' => P.ct (ds'.set i .u) ms' }) :
    S K (tTry K C i (fun W => tCallS (SpX K C Φ) (WE W) tA) ts) ds ms P := fun L M σ H hS hA D n r b c =>
  h L M σ H hS hA _ fun as vs H1 ms1 w1 a1 o1 h1 =>
    ⟨L, M, ms1, as, _, _, a1, o1, h1, fun s v H2 ms2 w2 o2 r2 => n σ H2 ds ms2 (w1.trans w2) (hS.mono hA (w1.trans w2)) o2.at r2, fun H2 ms2 w2 a2 y => ⟨true, hm, fun _ a ha => ⟨⟨rfl, rfl⟩, by
      have w := w1.trans w2
      refine y a L M _ H2 ((hS.mono hA w).set i (show SlOk K L M H2 (.v (.ref a)) (.ref a) from rfl)) a2 _ ?_ (r.on a2 w) ?_ ?_
      · intro σ3 H3 ds3 ms3 w3 s3 a3 q
        exact n _ H3 _ ms3 (w.trans w3) (s3.forget i none) a3 q
      · intro σ3 H3 ds3 ms3 w3 s3 a3 q
        exact b _ H3 _ ms3 (w.trans w3) (s3.forget i none) a3 q
      · intro σ3 H3 ds3 ms3 w3 s3 a3 q
        exact c _ H3 _ ms3 (w.trans w3) (s3.forget i none) a3 q⟩, nofun⟩⟩
theorem e_isE {i : Nat} {a : Addr} {c : V} {cv : Value} {k : Bool} (hi : ds[i]? = some (.v (.ref a))) (hc : ∀ u, RelV c u → u = cv) (hk : PySem.W.kitOne K (.ref C) cv = some k) (r : R (.d (.bool k)) ms) : E K (tCB (rIsE K C a) (tCons (tVar i) (tCons (tC c) tNil))) ds ms R := fun L M σ H hS hA Q q => by
  obtain ⟨v, e, o⟩ := hS.get hi (fun z => nomatch z)
  cases o
  exact ⟨.ref a, e, c, cv, k, rfl, hc, hk, q (.d (.bool k)) _ H ms (Wk.refl L H) ⟨hA, .bl k⟩ r⟩
end
def phx2 (f : SD → SD → List MD → RS → (List MD → Prop) → Prop) : PhX := fun as ms R Y => ∃ a b, as = [a, b] ∧ f a b ms R Y
theorem phx2_len {f : SD → SD → List MD → RS → (List MD → Prop) → Prop} : ∀ as ms R Y, phx2 f as ms R Y → as.length = 2 := fun _ _ _ _ ⟨_, _, e, _⟩ => by rw [e]; rfl
end Hc

namespace Hc
open PySem PySem.Spec PyProof.Rows L2
/-! ### what is a list or a tuple, in a slot, walked -/
def iRow (K : PySem.W.Frag) (i : Nat) : TI := fun σ H R => iList K (tVar i) σ H R ∨ iTup K (tVar i) σ H R
theorem pi_row {X : Cx} {tg l : Expr} {i : Nat} (h : PE X l (tVar i)) : PI X tg l (iRow X.K i) := ⟨fun pins s σ H R I q => by
  rcases q with q | q
  · exact (pi_list h).run pins s σ H R I q
  · exact (pi_tup h).run pins s σ H R I q⟩
abbrev rJoinK (K : PySem.W.Frag) : V → List V → Hp → VK → Prop := fun x xs H Q => ∃ a p, ∃ ys : List Str, x = .str a ∧ xs = [.ref p] ∧ (SqL K H p (ys.map V.str) ∨ SqT K H p (ys.map V.str)) ∧ (ys.map (·.length)).sum + ys.length * a.length ≤ 16777216 ∧ Q (.str (Txt.join a ys)) H
section
variable {K : PySem.W.Frag} {te ta tb tc tl : TE} {tt : TT} {tA : TA} {ds : List SD} {ms : List MD} {R : RS} {P : Po}
theorem e_lcRowL {i : Nat} {g : TG} {vs : List Nat} (h : E K (tLc (iList K (tVar i)) g tt te vs) ds ms R) : E K (tLc (iRow K i) g tt te vs) ds ms R := fun L M σ H hS hA Q q => .inl (h L M σ H hS hA Q q)
theorem e_lcRowT {i : Nat} {g : TG} {vs : List Nat} (h : E K (tLc (iTup K (tVar i)) g tt te vs) ds ms R) : E K (tLc (iRow K i) g tt te vs) ds ms R := fun L M σ H hS hA Q q => .inr (h L M σ H hS hA Q q)
/-- both at once: the source a row es -/
theorem e_lcRow {i : Nat} {g : TG} {js vs : List Nat} {x : PyData} {es : List PyData} (hi : ds[i]? = some (.d x)) (hx : x = .list es ∨ x = .tuple es) (hj : ∀ j ∈ js, j ∈ vs) (hz : es.length ≤ 10000) (Pv : Nat → List PyData → List MD → Prop) (h0 : Pv 0 [] ms)
      (hs : ∀ i e acc ms1, es[i]? = some e → Pv i acc ms1 → Lt K g js tt te vs ds (.d e) ms1 acc (Pv (i + 1))) (hd : ∀ acc ms1, Pv es.length acc ms1 → R (.f acc) ms1) : E K (tLc (iRow K i) g tt te vs) ds ms R := by
  rcases hx with rfl | rfl
  · exact e_lcRowL (e_lcL hj (e_var hi ⟨es, .d es, hz, Pv, h0, hs, hd⟩))
  · exact e_lcRowT (e_lcT hj (e_var hi ⟨es, rfl, hz, Pv, h0, hs, hd⟩))
theorem strs_inv {M : List Addr} {H : Hp} : ∀ {zs : List Str} {xs : List V}, RpA M H xs (zs.map PyData.str) → xs = zs.map V.str
  | [], _, h => by cases h; rfl
  | n :: r, _, h => by
    cases h with
    | cons a b => cases a; rw [strs_inv b]; rfl
theorem e_join (h : E K ta ds ms fun s ms1 => ∃ a, s = .d (.str a) ∧ E K te ds ms1 fun s2 ms2 => ∃ zs : List Str, Sv ms2 (dd s2) (.list (zs.map .str)) ∧ (zs.map (·.length)).sum + zs.length * a.length ≤ 16777216 ∧ R (.d (.str (Txt.join a zs))) ms2) : E K (tM1 (rJoinK K) ta te) ds ms R := fun L M σ H hS hA Q q =>
  h L M σ H hS hA _ fun s v H1 ms1 w1 o1 ⟨a, e, h1⟩ => by
    subst e
    obtain ⟨a1, z⟩ := o1
    cases z
    refine ⟨⟨a, rfl⟩, ?_⟩
    refine h1 L M σ H1 (hS.mono hA w1) a1 _ fun s2 v2 H2 ms2 w2 o2 ⟨zs, sv, hz, r⟩ => ?_
    obtain ⟨p, xs, rfl, hq, hr⟩ := sv.lst o2.at o2.sl
    rw [strs_inv hr] at hq
    exact ⟨a, p, zs, rfl, rfl, .inl hq, hz, q (.d (.str _)) _ H2 ms2 (w1.trans w2) ⟨o2.at, .str _⟩ r⟩
end
end Hc

namespace Hc
open PySem PySem.Spec PyProof.Rows L2
/-! ### o[i] op= e -/
def rIxN (K : PySem.W.Frag) : V → V → Hp → VK → Prop := fun o i H Q => ∃ (p : Addr) (xs : List V) (j : Nat) (v : V), o = .ref p ∧ i = .int j ∧ SqL K H p xs ∧ xs[j]? = some v ∧ Q v H
theorem get_listN {X : Cx} : PGet X (rIxN X.K) := by
  intro pins s σ H o i ov iv Q I ro ri h
  obtain ⟨p, xs, j, v, rfl, rfl, hq, hv, q⟩ := h
  cases ro
  obtain ⟨t, rfl⟩ := ri
  obtain ⟨its, r, pl, hz⟩ := I.list hq
  obtain ⟨w, ew, rw'⟩ := r.get hv
  have hj := (List.getElem?_eq_some_iff.mp hv).1
  have hn := line63
  exact wpAny_getItem_list pl.isList (by omega) (by omega) (by simpa using ew) ⟨v, H, I, rw', q⟩
theorem ip_xor {X : Cx} : PIp X .BitXor (ipI fun i j => Builtin.bitXor i j) := by
  intro pins s σ H x y v u Q I r1 r2 h
  obtain ⟨i, j, e1, e2, q⟩ := h
  subst e1; subst e2
  obtain ⟨t, rfl⟩ := r1
  obtain ⟨t', rfl⟩ := r2
  exact ixor_int ⟨.int _, H, I.tok _, ⟨_, rfl⟩, q⟩
section
variable {K : PySem.W.Frag} {te ta tb tc tl : TE} {tt : TT} {tA : TA} {ds : List SD} {ms : List MD} {R : RS} {P : Po}
/-- a place of a list of ints that may change, by a written number -/
theorem s_augN {i j : Nat} {f : Int → Int → Int} {c : Int} {k q : Nat} {ns : List Int} {x : Int} (hi : ds[i]? = some (.m k)) (hj : ds[j]? = some (.d (.int q))) (hm : ms[k]? = some (.l (ns.map .int))) (hx : ns[q]? = some x) (h : P.nx ds (ms.set k (.l ((ns.set q (f x c)).map .int)))) :
    S K (tAugS (tVar i) (tVar j) (tC (.int c)) (rIxN K) (ipI f) rSetL) ds ms P := fun L M σ H hS hA D n r b cc => by
  obtain ⟨v, e, p, rfl, hp⟩ := hS.get hi (fun z => nomatch z)
  obtain ⟨v2, e2, o2⟩ := hS.get hj (fun z => nomatch z)
  cases o2
  obtain ⟨xs, e1, r1⟩ := hA.get hp hm
  have hpL : p ∈ L := List.mem_of_getElem? hp
  have hxs := RpA.ints_inv r1
  subst hxs
  have hq := (List.getElem?_eq_some_iff.mp hx).1
  refine ⟨.ref p, e, .int q, e2, p, _, q, .int x, rfl, rfl, SqL.of e1, by rw [List.getElem?_map, hx]; rfl, x, c, rfl, rfl, p, _, q, q, rfl, rfl, e1, ?_, ?_⟩
  · unfold ixN
    rw [if_pos (by omega), if_pos (by rw [List.length_map]; omega)]
    simp
  · refine n σ _ ds _ (Wk.mut hpL) (hS.mono hA (Wk.mut hpL)) ?_ h
    have : (ns.map V.int).set q (.int (f x c)) = (ns.set q (f x c)).map V.int := by rw [List.map_set]
    rw [this]
    exact hA.put hp (RpA.ints _)
theorem rr_rep {a b : SD} (h : ∃ (e : PyData) (k : Int), a = .d (.list [e]) ∧ b = .d (.int k) ∧ 0 ≤ k ∧ k ≤ 1000 ∧ R (.f (List.replicate k.toNat e)) ms) : RR K rRep a b ms R := fun L M H x y hA ha hb Q q => by
  obtain ⟨e, k, rfl, rfl, h1, h2, r⟩ := h
  cases hb
  obtain ⟨p, xs, rfl, ep, rp⟩ := cat_lst ha
  obtain ⟨v, rfl⟩ : ∃ v, xs = [v] := by
    cases rp with
    | cons z y => cases y; exact ⟨_, rfl⟩
  refine ⟨p, k, [v], rfl, rfl, ep, by omega, by omega, by show 1 * k.toNat ≤ sizeLine; rw [Nat.one_mul]; exact Nat.le_trans (show k.toNat ≤ 1000 by omega) (by decide), ?_⟩
  have rr : ∀ m : Nat, RpA M H (List.replicate m [v]).flatten (List.replicate m e) := fun m => by
    induction m with
    | zero => exact .nil
    | succ m ih =>
      rw [List.replicate_succ, List.replicate_succ, List.flatten_cons]
      cases rp with
      | cons z y => exact .cons z ih
  intro l hl
  exact q (.f (List.replicate k.toNat e)) _ _ ms (Wk.new hl) (out_new hA (Wk.refl L H) hl (rr k.toNat)) r
theorem erase_map : ∀ (ns : List Int) (i : Nat), (ns.map V.int).eraseIdx i = (ns.eraseIdx i).map V.int
  | [], _ => rfl
  | _ :: _, 0 => rfl
  | a :: r, i + 1 => by
    show V.int a :: (r.map V.int).eraseIdx i = V.int a :: (r.eraseIdx i).map V.int
    rw [erase_map r i]
theorem inV_ints (x : Int) (ns : List Int) : inV (.int x) (ns.map V.int) = decide (x ∈ ns) := by
  unfold inV
  induction ns with
  | nil => rfl
  | cons a r ih =>
    rw [List.map_cons, List.any_cons, ih]
    show ((a == x) || _) = _
    by_cases e : a = x
    · subst e; simp
    · have e' : (a == x) = false := by simp [e]
      rw [e']
      have : ¬ x = a := fun z => e z.symm
      simp [this]
theorem flat_ints (ns : List Int) : (ns.map V.int).all flatV = true := by
  rw [List.all_eq_true]
  intro v hv
  obtain ⟨i, _, rfl⟩ := List.mem_map.mp hv
  rfl
theorem rr_in {a b : SD} {neg : Bool} (h : ∃ (x : Int) (ns : List Int), a = .d (.int x) ∧ (Sv ms b (.list (ns.map .int)) ∨ Sv ms b (.tuple (ns.map .int))) ∧ R (.d (.bool (if neg then !decide (x ∈ ns) else decide (x ∈ ns)))) ms) : RR K (rIn K neg) a b ms R := fun L M H u v hA ha hb Q q => by
  obtain ⟨x, ns, rfl, sv, r⟩ := h
  cases ha
  rw [← inV_ints] at r
  rcases sv with sv | sv
  · obtain ⟨p, xs, rfl, hq, hr⟩ := sv.lst hA hb
    rw [RpA.ints_inv hr] at hq
    exact ⟨p, _, rfl, .inl hq, rfl, flat_ints ns, q (.d (.bool _)) _ H ms (Wk.refl L H) ⟨hA, .bl _⟩ r⟩
  · obtain ⟨p, xs, rfl, hq, hr⟩ := sv.tup hb
    rw [RpA.ints_inv hr] at hq
    exact ⟨p, _, rfl, .inr (SqT.of hq), rfl, flat_ints ns, q (.d (.bool _)) _ H ms (Wk.refl L H) ⟨hA, .bl _⟩ r⟩
theorem rc_sorted {as : List SD} (h : ∃ (s : SD) (ns : List Int), as = [s] ∧ Sv ms s (.list (ns.map .int)) ∧ ∀ ns' : List Int, ns'.Perm ns → ns'.Pairwise (· ≤ ·) → R (.f (ns'.map .int)) ms) : RC K (rSortedI K) as ms R := fun L M H vs hA ha Q q => by
  obtain ⟨s, ns, rfl, sv, r⟩ := h
  obtain ⟨v, t, rfl, hv, rfl⟩ := ha
  obtain ⟨p, xs, rfl, hq, hr⟩ := sv.lst hA hv
  rw [RpA.ints_inv hr] at hq
  refine ⟨p, ns, rfl, hq, ?_⟩
  intro ns' l hp hs hl
  exact q (.f (ns'.map .int)) _ _ ms (Wk.new hl) (out_new hA (Wk.refl L H) hl (RpA.ints ns')) (r ns' hp hs)
/-- list(range(n)) -/
theorem e_lrg (h : E K ta ds ms fun s ms1 => ∃ n : Nat, s = .d (.int n) ∧ n ≤ 10000 ∧ R (.f ((List.range n).map fun k : Nat => PyData.int k)) ms1) : E K (tLstRg (tRg1 ta)) ds ms R := fun L M σ H hS hA Q q =>
  h L M σ H hS hA _ fun s v H1 ms1 w o ⟨n, e, hn, r⟩ => by
    subst e
    obtain ⟨a1, z⟩ := o
    cases z
    refine ⟨n, rfl, .of_le (by omega) (by omega) (by omega) (by omega), fun l hl => ?_⟩
    have rr : RpA M H1 (rgV 0 (n : Int)) ((List.range n).map fun k : Nat => PyData.int k) := by
      unfold rgV
      have e0 : ((n : Int) - 0).toNat = n := by omega
      rw [e0]
      have : ∀ l : List Nat, RpA M H1 (l.map fun i : Nat => V.int (0 + (i : Int))) (l.map fun k : Nat => PyData.int k) := fun l => by
        induction l with
        | nil => exact .nil
        | cons a r ih =>
          refine .cons ?_ ih
          show Rp M H1 (.int (0 + (a : Int))) (.int a)
          rw [Int.zero_add]
          exact .int _
      exact this _
    exact q (.f _) _ _ ms1 (w.trans (Wk.new hl)) (out_new a1 w hl rr) r
/-- xs.pop(i) of a list of ints that may change -/
theorem e_popAt (h : E K ta ds ms fun s ms1 => ∃ k, s = .m k ∧ E K te ds ms1 fun x ms2 => ∃ (ns : List Int) (i : Nat) (y : Int), x = .d (.int i) ∧ ms2[k]? = some (.l (ns.map .int)) ∧ ns[i]? = some y ∧ ns.length ≤ 10000 ∧ R (.d (.int y)) (ms2.set k (.l ((ns.eraseIdx i).map .int)))) : E K (tBM K "list" rPopAt ta (tCons te tNil)) ds ms R := fun L M σ H hS hA Q q =>
  h L M σ H hS hA _ fun s v H1 ms1 w o ⟨k, e, h2⟩ => by
    subst e
    obtain ⟨a1, p, rfl, hp⟩ := o
    have hpL : p ∈ L := List.mem_of_getElem? hp
    have hk : k < ms1.length := by rw [← a1.ln]; exact (List.getElem?_eq_some_iff.mp hp).1
    cases hm : ms1[k] with
    | l es0 =>
      obtain ⟨xs0, e0, _⟩ := a1.get hp (es := es0) (by rw [List.getElem?_eq_getElem hk, hm])
      refine ⟨.inl ⟨rfl, xs0, SqL.of e0⟩, ?_⟩
      refine h2 L M σ H1 (hS.mono hA w) a1 _ fun x y H2 ms2 w2 o2 ⟨ns, i, z, ex, em, hz, hl, r⟩ => ?_
      subst ex
      obtain ⟨a2, o⟩ := o2
      cases o
      obtain ⟨xs, e1, r1⟩ := a2.get hp em
      have hxs := RpA.ints_inv r1
      subst hxs
      have hi := (List.getElem?_eq_some_iff.mp hz).1
      refine ⟨p, _, i, i, .int z, rfl, rfl, e1, by omega, by omega, ?_, by rw [List.getElem?_map, hz]; rfl, ?_⟩
      · unfold seqIndex?
        simp only [List.length_map]
        rw [if_neg (show ¬ (i : Int) < 0 by omega)]
        simp [hi]
      · have : (ns.map V.int).eraseIdx i = (ns.eraseIdx i).map V.int := erase_map ns i
        rw [this]
        exact q (.d (.int z)) _ _ _ ((w.trans w2).trans (Wk.mut hpL)) ⟨a2.put hp (RpA.ints _), .int z⟩ r
theorem e_count (h : E K ta ds ms fun s ms1 => ∃ ns : List Int, Sv ms1 (dd s) (.list (ns.map .int)) ∧ E K te ds ms1 fun x ms2 => ∃ k : Int, x = .d (.int k) ∧ ms2 = ms1 ∧ R (.d (.int (ns.count k : Nat))) ms2) : E K (tBM K "list" (rCntI K) ta (tCons te tNil)) ds ms R := fun L M σ H hS hA Q q =>
  h L M σ H hS hA _ fun s v H1 ms1 w o ⟨ns, sv, h2⟩ => by
    have a1 := o.at
    have os := o.sl
    obtain ⟨p, xs, rfl, hq, hr⟩ := sv.lst a1 os
    refine ⟨.inl ⟨rfl, xs, hq⟩, ?_⟩
    refine h2 L M σ H1 (hS.mono hA w) a1 _ fun x y H2 ms2 w2 o2 ⟨k, ex, em, r⟩ => ?_
    subst ex em
    obtain ⟨a2, z⟩ := o2
    cases z
    obtain ⟨p2, xs2, ep, hq2, hr2⟩ := sv.lst a2 (os.mono a1 w2)
    cases ep
    rw [RpA.ints_inv hr2] at hq2
    exact ⟨p, ns, k, rfl, rfl, hq2, q (.d (.int _)) _ H2 _ (w.trans w2) ⟨a2, .int _⟩ r⟩
section
variable {L M : List Addr} {σ : L2.St} {H1 H' : Hp}
theorem lc_turn2 {g : TG} {js : List Nat} {vs : List Nat} {D : Addr} {i : Nat} {acc : List PyData} {ms0 ms1 : List MD} {H2 : Hp} {x : SD} {v : V} {Nn : Nat → List PyData → List MD → Prop} (hj : ∀ j ∈ js, j ∈ vs) (hi : i < 10000)
    (hS : Sl K L M σ H1 ds) (a0 : At L M ms0 H1) (hD : H1 D = none) (c : Cs L M H1 D i acc ms1 H2) (ho : SlOk K L (M ++ [D]) H2 x v) (h : Lt K g js tt te vs ds x ms1 acc (Nn (i + 1))) :
    g v (L2.wipe σ vs) H2 fun σ2 H3 => L2.wipe σ2 vs = L2.wipe σ vs ∧ tt σ2 H3 fun b H4 => if b = true then te σ2 H4 fun y H5 => ∃ ac, H5 D = some (.lst ac) ∧ ac.length < sizeLine ∧ (∃ acc' ms', Cs L M H1 D (i + 1) acc' ms' (upd H5 D (.lst (ac ++ [y]))) ∧ Nn (i + 1) acc' ms') else ∃ acc' ms', Cs L M H1 D (i + 1) acc' ms' H4 ∧ Nn (i + 1) acc' ms' := by
  have t : To M (M ++ [D]) H1 H2 := to_new a0 hD c.w
  have hDL : D ∉ L := a0.freshL hD
  have s2 : Sl K L (M ++ [D]) (L2.wipe σ vs) H2 (wipeD ds vs) := (hS.to t fun _ _ e => e).wipe vs
  refine h L (M ++ [D]) (L2.wipe σ vs) H2 v s2 c.a ho _ fun σ2 ds2 sl2 wp h2 => ?_
  have wv : L2.wipe σ2 vs = L2.wipe σ vs := by
    rw [wp vs hj]
    apply List.ext_getElem?
    intro i
    rw [wipe_get, wipe_get, wipe_length]
    by_cases e : i ∈ vs
    · rw [if_pos e, if_pos e]
    · simp only [if_neg e, wipe_get]
  refine ⟨wv, ?_⟩
  refine h2 L (M ++ [D]) σ2 H2 sl2 c.a _ fun b H4 ms4 w4 a4 ⟨k1, k2⟩ => ?_
  obtain ⟨xs, e, r⟩ := c.d
  have e4 : H4 D = some (.lst xs) := w4 D _ hDL e
  have r4 : RpA (M ++ [D]) H4 xs acc := RpA.to (c.a.wk w4) _ _ r
  cases b with
  | false =>
    rw [if_neg Bool.false_ne_true]
    exact ⟨acc, ms4, ⟨c.w.trans w4, a4, Nat.le_succ_of_le c.le, xs, e4, r4⟩, k2 rfl⟩
  | true =>
    rw [if_pos rfl]
    refine k1 rfl L (M ++ [D]) σ2 H4 (sl2.mono c.a w4) a4 _ fun s y H5 ms5 w5 o5 ⟨d, ed, hn⟩ => ?_
    have a5 := o5.at
    have ry := o5.sl
    rw [ed] at ry
    have e5 : H5 D = some (.lst xs) := w5 D _ hDL e4
    have r5 : RpA (M ++ [D]) H5 xs acc := RpA.to (a4.wk w5) _ _ r4
    have hDM : D ∈ M ++ [D] := by simp
    have tt5 : To (M ++ [D]) (M ++ [D]) H5 (upd H5 D (.lst (xs ++ [y]))) := fun a o n q => ⟨n, by rw [upd_ne (fun z : a = D => n (by rw [z]; exact hDM))]; exact q⟩
    refine ⟨xs, e5, by rw [r5.length]; exact Nat.lt_of_le_of_lt c.le (Nat.lt_trans hi (by decide)), acc ++ [d], ms5, ⟨fun a o n q => ?_, ⟨a5.nd, a5.sub, fun p hp => ?_, a5.ln, fun k p m e1 e2 => ?_⟩, ?_, xs ++ [y], upd_same, RpA.to tt5 _ _ (r5.append (.cons ry .nil))⟩, hn⟩
    · rw [upd_ne (ne_of_none q hD)]
      exact w5 a o n (w4 a o n (c.w a o n q))
    · by_cases z : p = D
      · subst z; rw [upd_same]; exact fun z => nomatch z
      · rw [upd_ne z]; exact a5.al p hp
    · exact (a5.ok k p m e1 e2).to tt5 (upd_ne (fun z => hDL (z ▸ List.mem_of_getElem? e1)))
    · rw [List.length_append]; have := c.le; simp; exact this
theorem Cs.new {D T : Addr} {i : Nat} {acc : List PyData} {ms1 : List MD} {H2 : Hp} {o : HO} (c : Cs L M H1 D i acc ms1 H2) (hT : H2 T = none) : Cs L M H1 D i acc ms1 (upd H2 T o) := by
  obtain ⟨xs, e, r⟩ := c.d
  exact ⟨c.w.trans (Wk.new hT), c.a.new hT, c.le, xs, by rw [upd_ne (ne_of_none e hT)]; exact e, RpA.to (c.a.wk (Wk.new hT)) _ _ r⟩
end
/-- over zip(t, u) of two tuples -/
theorem e_lcZ {g : TG} {js vs : List Nat} (hj : ∀ j ∈ js, j ∈ vs) (h : EA K tA ds ms fun as ms0 => ∃ es fs : List PyData, as = [.d (.tuple es), .d (.tuple fs)] ∧ es.length ≤ 10000 ∧ ∃ Pv : Nat → List PyData → List MD → Prop, Pv 0 [] ms0 ∧
      (∀ i e f acc ms1, es[i]? = some e → fs[i]? = some f → Pv i acc ms1 → Lt K g js tt te vs ds (.d (.tuple [e, f])) ms1 acc (Pv (i + 1))) ∧ ∀ acc ms1, Pv (min es.length fs.length) acc ms1 → R (.f acc) ms1) :
    E K (tLc (RZ.iZipA K tA) g tt te vs) ds ms R := fun L M σ H hS hA Q q =>
  h L M σ H hS hA _ fun as us H1 ms0 w a1 o ⟨es, fs, ea, hz, Pv, h0, hs, hd⟩ => by
    subst ea
    obtain ⟨v1, t1, rfl, o1, v2, t2, rfl, o2, rfl⟩ := o
    have o1' : Rp M H1 v1 (.tuple es) := o1
    have o2' : Rp M H1 v2 (.tuple fs) := o2
    cases o1' with
    | @tup a xs _ na ea rx =>
    cases o2' with
    | @tup b ys _ nb eb ry =>
    have hx : ∀ H', Wk L H1 H' → SqT K H' a xs := fun H' w' => SqT.of (w' a _ (fun z => na (a1.sub a z)) ea)
    have hy : ∀ H', Wk L H1 H' → SqT K H' b ys := fun H' w' => SqT.of (w' b _ (fun z => nb (a1.sub b z)) eb)
    refine ⟨a, b, xs, ys, rfl, .inr ⟨hx H1 (Wk.refl L H1), hy H1 (Wk.refl L H1), fun D hD => ?_⟩⟩
    have hDL := a1.freshL hD
    refine ⟨fun i m H' => m = min es.length fs.length - i ∧ i ≤ min es.length fs.length ∧ ∃ acc ms', Cs L M H1 D i acc ms' H' ∧ Pv i acc ms', ⟨_, rfl, Nat.zero_le _, [], ms0, .start a1 hD, h0⟩, ?_⟩
    rintro i m H' ⟨rfl, hi, acc, ms', c, p⟩
    have qx := hx H' c.w
    have qy := hy H' c.w
    by_cases hlt : i < min es.length fs.length
    · have l1 : i < xs.length := by rw [rx.length]; omega
      have l2 : i < ys.length := by rw [ry.length]; omega
      refine .inr ⟨⟨xs, ys, xs[i], ys[i], qx, qy, by simp [l1], by simp [l2]⟩, fun H2 => ∃ acc' ms2, Cs L M H1 D (i + 1) acc' ms2 H2 ∧ Pv (i + 1) acc' ms2, fun H2 ⟨acc', ms2, c2, p2⟩ => ⟨min es.length fs.length - (i + 1), by omega, rfl, hlt, acc', ms2, c2, p2⟩, fun v H2 y => ?_⟩
      obtain ⟨T, x, y, rfl, hT, rfl, fx, fy⟩ := y
      obtain ⟨e, e1, e2⟩ := rx.get' (fx xs qx)
      obtain ⟨f, f1, f2⟩ := ry.get' (fy ys qy)
      have c2 := c.new (o := .tup [x, y]) hT
      have tt2 : To M (M ++ [D]) H1 (upd H' T (.tup [x, y])) := to_new a1 hD c2.w
      have ho : SlOk K L (M ++ [D]) (upd H' T (.tup [x, y])) (.d (.tuple [e, f])) (.ref T) := Rp.tup (c.a.fresh hT) upd_same (.cons (Rp.to tt2 _ _ e2) (.cons (Rp.to tt2 _ _ f2) .nil))
      exact lc_turn2 (x := .d (.tuple [e, f])) (v := .ref T) (Nn := Pv) hj (by omega) (hS.mono hA w) a1 hD c2 ho (hs i e f acc ms' e1 f1 p)
    · have e : i = min es.length fs.length := by omega
      subst e
      refine .inl ⟨⟨xs, ys, qx, qy, by rw [rx.length, ry.length]; omega⟩, ?_⟩
      exact q (.f acc) _ H' ms' (w.trans c.w) ⟨D, rfl, none_back a1 w (a1.fresh hD) hD, a1.fresh hD, c.done a1.sub hDL, a1.sub⟩ (hd acc ms' p)
theorem e_lcR2 {g : TG} {js vs : List Nat} (hj : ∀ j ∈ js, j ∈ vs) (h : EA K tA ds ms fun as ms0 => ∃ lo n : Int, as = [.d (.int lo), .d (.int n)] ∧ (-(2 ^ 62) ≤ lo ∧ lo < 2 ^ 62 ∧ -(2 ^ 62) ≤ n ∧ n < 2 ^ 62 ∧ n - lo ≤ 10000) ∧ ∃ Pv : Nat → List PyData → List MD → Prop, Pv 0 [] ms0 ∧
      (∀ i acc ms1, i < (n - lo).toNat → Pv i acc ms1 → Lt K g js tt te vs ds (.d (.int (lo + i))) ms1 acc (Pv (i + 1))) ∧ ∀ acc ms1, Pv (n - lo).toNat acc ms1 → R (.f acc) ms1) :
    E K (tLc (iRng2 tA) g tt te vs) ds ms R := fun L M σ H hS hA Q q =>
  h L M σ H hS hA _ fun as us H1 ms0 w a1 o ⟨lo, n, ea, hn, Pv, h0, hs, hd⟩ => by
    subst ea
    obtain ⟨v, t1, rfl, hv, v2, t2, rfl, hv2, rfl⟩ := o
    cases hv; cases hv2
    refine ⟨lo, n, rfl, ⟨hn.1, hn.2.1, hn.2.2.1, hn.2.2.2.1⟩, fun D hD => ?_⟩
    have hDL := a1.freshL hD
    refine lc_range (lo := lo) (n := (n - lo).toNat) (fun i H' => ∃ acc ms', Cs L M H1 D i acc ms' H' ∧ Pv i acc ms') ⟨[], ms0, .start a1 hD, h0⟩ (fun i H' hi ⟨acc, ms', c, p⟩ => ?_) (fun H' ⟨acc, ms', c, p⟩ => ?_)
    · exact lc_turn (x := .d (.int (lo + i))) (v := .int (lo + (i : Int))) (Nn := Pv) hj (by have := hn.2.2.2.2; omega) (hS.mono hA w) a1 hD c (.int _) (hs i acc ms' hi p)
    · exact q (.f acc) _ H' ms' (w.trans c.w) ⟨D, rfl, none_back a1 w (a1.fresh hD) hD, a1.fresh hD, c.done a1.sub hDL, a1.sub⟩ (hd acc ms' p)
end
end Hc

namespace Hc
open PySem PySem.Spec PyProof.Rows L2
/-! ### enumerate(t) of a tuple -/
abbrev enO (i : Addr) : Obj := { cls := .type "enumerate", data := .fields #[.none, .bool false, .ref i, rawInt 0, .none, .none] }
theorem en_new {v : Value} {ob : Obj} {G : Heap → Prop} (B : Begins v ob G) :
    Meets (Builtin.«enumerate.__new__» ⟨[.type "enumerate", v], []⟩) (fun _ R st => G st.heap ∧
      R (.ok (.ret (.ref (st.heap.push ob).objs.size))) { st with heap := (st.heap.push ob).push (enO st.heap.objs.size) }) :=
  .of_wp fun pr wd Ar R st hh => by
    obtain ⟨hp, gn, dr, tk, os⟩ := st
    obtain ⟨g1, g2⟩ := hh
    have sb := sub_enumerate
    have go : ∀ {A2 : Around} {E2 : Value → Shared → Prop} {Q2 : Value → Shared → Prop}, Q2 (.ref hp.objs.size) ⟨hp.push ob, gn, dr, tk, os⟩ →
        wpAny (model pr wd) A2 (pyIter v) Q2 E2 ⟨hp, gn, dr, tk, os⟩ := fun z => B.iter pr wd _ _ ⟨hp, gn, dr, tk, os⟩ _ g1 z
    wp_walk using go
    refine wpAny_stack_any fun sk => wpAny_pure ?_
    split
    · rename_i cl _ _ _ _ _
      cases (cl == Value.type "enumerate") <;> (wp_walk using go; exact ⟨_, rfl, g2⟩)
    · wp_walk using go
      exact ⟨_, rfl, g2⟩
section
variable {pr : Program} {wd : World} {Ar : Around} {Ex : Value → Shared → Prop} {st : Shared}
theorem en_call {v : Value} {ob : Obj} {G : Heap → Prop} {Q : Value → Shared → Prop} (B : Begins v ob G) (g : G st.heap)
    (k : ∀ hp, IsEnum hp (st.heap.objs.size + 1) st.heap.objs.size 0 .none → hp.get? st.heap.objs.size = some ob → (∀ b u, st.heap.get? b = some u → hp.get? b = some u) → Q (.ref (st.heap.objs.size + 1)) { st with heap := hp }) :
    wpAny (model pr wd) Ar (call (.type "enumerate") [v]) Q Ex st := by
  refine callType_new F.called_enumerate (by decide) (F.typeCall_enumerate_1 _) (F.newCall_enumerate_1 _) (fun z => F.args_object_init_2 z _)
    F.entry_enumerate_new (en_new B) ⟨g, ?_⟩
  have sz : (st.heap.push ob).objs.size = st.heap.objs.size + 1 := Heap.size_push ..
  have en : IsEnum ((st.heap.push ob).push (enO st.heap.objs.size)) (st.heap.objs.size + 1) st.heap.objs.size 0 .none := by
    rw [← sz]
    exact Heap.get?_push_size (st.heap.push ob) rfl
  show _ ∧ _
  rw [sz]
  exact ⟨⟨_, en, rfl⟩, k _ en (Heap.get?_push_of_some _ (Heap.get?_push_size _ B.free)) fun b u z => Heap.get?_push_of_some _ (Heap.get?_push_of_some _ z)⟩
end
/-- the tuple at a, in new pairs with the numbers -/
def ItE (K : PySem.W.Frag) (a : Addr) : It where
  go := fun i H => ∃ (xs : List V) (x : V), SqT K H a xs ∧ xs[i]? = some x
  yld := fun i H v H2 => ∃ (N : Addr) (x : V), v = .ref N ∧ H N = none ∧ H2 = upd H N (.tup [.int ((i : Nat) : Int), x]) ∧ ∀ xs : List V, SqT K H a xs → xs[i]? = some x
  stop := fun i H => ∃ xs : List V, SqT K H a xs ∧ i = xs.length
theorem two_ne {h : Heap} {a b : Addr} {o u : Obj} (ha : h.get? a = some o) (hb : h.get? b = some u) (hc : o.cls ≠ u.cls) : a ≠ b := fun z => by
  subst z
  rw [ha] at hb
  exact hc (congrArg Obj.cls (Option.some.inj hb))
theorem turn_enT {P : Program} {w : World} {K : PySem.W.Frag} {es : List Expr} {n : Nat} {q : Pos} (a e i1 : Addr) :
    Turn P w K (.Tuple es n q) (ItE K a) [e, i1] e (fun i h => (∃ z, IsEnum h e i1 ((i : Nat) : Int) z) ∧ h.IsTupleIter i1 a i ∧ e ≠ i1) where
  mem := List.mem_cons_self ..
  obj := fun i h tn b hb => by
    obtain ⟨⟨z, he⟩, ⟨o, ho, _, hd⟩, _⟩ := tn
    rcases List.mem_cons.mp hb with rfl | hb
    · exact ⟨_, he, nofun⟩
    · rw [List.mem_singleton.mp hb]
      exact ⟨o, ho, fun v y => by rw [hd] at y; cases y⟩
  keep := fun i h h2 tn k => by
    obtain ⟨⟨z, he⟩, hi, ne⟩ := tn
    exact ⟨⟨z, k e (by simp) _ he⟩, hi.at fun o y => k i1 (by simp) o y, ne⟩
  item := by
    intro X e1 e2 e3 cm i pins s σ H Ex I fp tn gg
    subst e1 e2 e3
    obtain ⟨⟨z, he⟩, hi, ne⟩ := tn
    obtain ⟨xs, x, sq, hx⟩ := gg
    obtain ⟨its, rv, tp, _⟩ := I.tuple sq
    obtain ⟨u, hu, ru⟩ := rv.get hx
    have tp' : s.heap.IsTuple a its.toArray := tp
    obtain ⟨o1, ho1, hc1, _⟩ := id tp'
    obtain ⟨o2, ho2, hc2, _⟩ := id hi
    have ai : a ≠ i1 := two_ne ho1 ho2 (by rw [hc1, hc2]; exact (by simp))
    have ea : e ≠ a := two_ne he ho1 (by rw [hc1]; exact (by simp))
    have el := Heap.lt_size he
    have il := Heap.lt_size ho2
    have lt : i < its.toArray.size := by
      have := (List.getElem?_eq_some_iff.mp hu).1
      simpa using this
    have D : Draws X.prog X.w X.A.in1 i1 [i1, a] its.toArray.size (fun j v => its.toArray[j]? = some v) (fun j hp => hp.IsTupleIter i1 a j ∧ hp.IsTuple a its.toArray) := Draws.tuple (A := X.A.in1) (show X.A.in1.handled = none from I.ok.hd cm) i1 a ai its.toArray
    refine wpAny_pyNext_enum_itemD D he ⟨hi, tp'⟩ lt ne (by simp; exact ⟨ne, ea⟩) fun u2 h2 tk hu2 out hs2 hT _ kp => ?_
    have : u2 = u := by
      have y : its.toArray[i]? = some u2 := hu2
      rw [List.getElem?_toArray, hu] at y
      exact (Option.some.inj y).symm
    subst this
    refine ⟨_, rfl, wpAny_letOwnedTupleGo_enum (s := { s with heap := h2, toks := tk + 1 }) out fun h3 he3 sb => ?_⟩
    have hT3 : h3.get? s.heap.objs.size = some { cls := .type "tuple", data := .seq #[.int i tk, u2] } := (sb.2 _ (Nat.ne_of_gt el)).trans hT
    have ok : ObjOk X.prog X.w (upd H s.heap.objs.size (.tup [.int ((i : Nat) : Int), x])) h3 s.heap.objs.size (.tup [.int ((i : Nat) : Int), x]) :=
      ⟨Nat.le_of_ble_eq_true rfl, [.int i tk, u2], .cons ⟨_, rfl⟩ (.cons ru .nil), ⟨_, hT3, rfl, _, rfl⟩⟩
    have I3 : L2.Inv X pins σ (upd H s.heap.objs.size (.tup [.int ((i : Nat) : Int), x])) { s with heap := h3, toks := tk + 1 } :=
      I.turnedNew (ch := [e, i1]) (fun b o nb y => by
        have b1 : b ≠ e := fun y => nb (by simp [y])
        have b2 : b ≠ i1 := fun y => nb (by simp [y])
        exact (sb.2 b b1).trans (kp b o b1 b2 y)) fp (Nat.le_refl _) ok
    refine ⟨.ref s.heap.objs.size, _, I3, rfl, ⟨_, x, rfl, I.hok.fresh (Nat.le_refl _), rfl, fun ys sy => by rw [I.tuple_inj sy sq]; exact hx⟩, ⟨⟨u2, ?_⟩, hs2.1.at fun o y => (sb.2 i1 (Ne.symm ne)).trans y, ne⟩, fun b hb => ?_⟩
    · have c : (((i + 1 : Nat)) : Int) = (i : Int) + 1 := Int.natCast_succ i
      rw [c]
      exact he3
    · have lb : b < s.heap.objs.size := by
        rcases List.mem_cons.mp hb with rfl | hb
        · exact el
        · rw [List.mem_singleton.mp hb]; exact il
      rw [upd_ne (Nat.ne_of_lt lb)]
      exact (fp b hb).1
  done := by
    intro X e1 e2 e3 cm i pins s σ H Ex I fp tn gg
    subst e1 e2 e3
    obtain ⟨⟨z, he⟩, hi, ne⟩ := tn
    obtain ⟨xs, sq, hx⟩ := gg
    obtain ⟨its, rv, tp, _⟩ := I.tuple sq
    have tp' : s.heap.IsTuple a its.toArray := tp
    obtain ⟨o1, ho1, hc1, _⟩ := id tp'
    obtain ⟨o2, ho2, hc2, _⟩ := id hi
    have ai : a ≠ i1 := two_ne ho1 ho2 (by rw [hc1, hc2]; exact (by simp))
    have D : Draws X.prog X.w X.A.in1 i1 [i1, a] its.toArray.size (fun j v => its.toArray[j]? = some v) (fun j hp => hp.IsTupleIter i1 a j ∧ hp.IsTuple a its.toArray) := Draws.tuple (A := X.A.in1) (show X.A.in1.handled = none from I.ok.hd cm) i1 a ai its.toArray
    have ln := rv.length
    have is : its.toArray.size = i := by simp; omega
    obtain ⟨f0, f1, _, f3, f4, f5⟩ := fp i1 (by simp)
    exact wpAny_pyNext_enum_endD D he (by rw [is]; exact ⟨hi, tp'⟩) fun h2 eb => ⟨rfl, I.turned (t' := s.toks) (fun b o nb y => eb b o nb y) f0 f1 f3 f4 f5⟩
  self := fun A i s Q Ex tn k => by
    obtain ⟨⟨z, he⟩, _⟩ := tn
    exact wpAny_pyIter_enum he k
def iEnT (K : PySem.W.Frag) (ta : TA) : TI := fun σ H R => ta σ H fun vs H1 => ∃ (a : Addr) (xs : List V), vs = [.ref a] ∧ SqT K H1 a xs ∧ R (ItE K a) H1
theorem pi_enT {X : Cx} {ex : Expr} {ta : TA} {p1 p2 p3 : Pos} {es : List Expr} {n : Nat} (hg : Gl X "enumerate") (hm : X.mg "enumerate" = none) (ha : PA X [ex] ta) (hs : starEach [ex] X.env = [(false, eval ex X.env)] := by rfl) :
    PI X (.Tuple es n p3) (.Call (.Name "enumerate" p1) [ex] [] p2) (iEnT X.K ta) := by
  constructor
  intro pins s σ H R I h
  refine Call_ (ld_blt I hg hm boot_enumerate (PyProof.Rows.callWith_type1 (thn (ha.run p2 pins s σ H _ I h) ?_) hs rfl))
  rintro us s1 ⟨vs, H1, I1, r1, a, xs, rfl, sq, q⟩
  cases r1 with
  | cons r rr =>
    cases rr
    cases r
    obtain ⟨its, rv, tp, _⟩ := I1.tuple sq
    refine en_call (begins_tuple a its.toArray) tp fun hp he hi kp => wpAny_pyIter_enum he ?_
    have fr : ∀ b ∈ [s1.heap.objs.size + 1, s1.heap.objs.size], FpOk X pins H1 b := fun b hb => by
      have le : s1.heap.objs.size ≤ b := by
        rcases List.mem_cons.mp hb with rfl | hb
        · exact Nat.le_succ _
        · rw [List.mem_singleton.mp hb]
          exact Nat.le_refl _
      exact I1.fpOk le (I1.hok.fresh le)
    exact ⟨_, [s1.heap.objs.size + 1, s1.heap.objs.size], _, _, H1, rfl, I1.kept (t' := s1.toks) kp, turn_enT a _ _, ⟨⟨.none, he⟩, ⟨_, hi, rfl, rfl⟩, Nat.succ_ne_self _⟩, fr, q⟩
theorem walk_enT {K : PySem.W.Frag} {a : Addr} {xs : List V} : Walk (ItE K a) xs.length (fun H => SqT K H a xs) (YPair (fun i => some (V.int ((i : Nat) : Int))) (fun i => xs[i]?)) where
  goes := fun i H hi sq => ⟨xs, xs[i], sq, List.getElem?_eq_getElem hi⟩
  stops := fun H sq => ⟨xs, sq, rfl⟩
  yields := fun i H v H2 hi sq ⟨N, x, e, f, u, k⟩ => ⟨N, _, x, e, f, u, rfl, k xs sq⟩
section
variable {K : PySem.W.Frag} {te ta tb tc tl : TE} {tt : TT} {tA : TA} {ds : List SD} {ms : List MD} {R : RS} {t u : TS} {P : Po}
theorem s_forET {g : TG} {js : List Nat} (h : EA K tA ds ms fun as ms0 => ∃ es : List PyData, as = [.d (.tuple es)] ∧ ∃ Pv : Nat → List SD → List MD → Prop, Pv 0 ds ms0 ∧
      (∀ i e ds1 ms1, es[i]? = some e → Pv i ds1 ms1 → EG K g js (.d (.tuple [.int (i : Nat), e])) ds1 ms1 fun ds2 ms2 => S K t ds2 ms2 { P with nx := Pv (i + 1), ct := Pv (i + 1), bk := P.nx }) ∧ ∀ ds1 ms1, Pv es.length ds1 ms1 → P.nx ds1 ms1) :
    S K (tFor (iEnT K tA) g t) ds ms P := fun L M σ H hS hA D n r b c =>
  h L M σ H hS hA _ fun as vs H1 ms0 w a1 o ⟨es, ea, Pv, h0, hs, hd⟩ => by
    subst ea
    obtain ⟨v, t1, rfl, hv, rfl⟩ := o
    have hv' : Rp M H1 v (.tuple es) := hv
    cases hv' with
    | @tup a xs _ na ea rx =>
    refine ⟨a, xs, rfl, SqT.of ea, for_it walk_enT (fun i σ' H' => ∃ ds' ms', Wk L H1 H' ∧ Sl K L M σ' H' ds' ∧ At L M ms' H' ∧ Pv i ds' ms') ⟨ds, ms0, Wk.refl L H1, hS.mono hA w, a1, h0⟩ (fun i σ' H' _ ⟨_, _, w', _⟩ => SqT.of (w' a _ (fun z => na (a1.sub a z)) ea)) (fun i x σ' H' H2 hi ⟨ds', ms', w', s', a', p'⟩ y => ?_) (fun σ' H' ⟨ds', ms', w', s', a', p'⟩ => ?_)⟩
    · obtain ⟨N, c1, y1, rfl, hN, rfl, q1, q2⟩ := y
      cases q1
      obtain ⟨e, e1, e2⟩ := rx.get' q2
      have w2 : Wk L H' (upd H' N (.tup [.int (i : Nat), y1])) := Wk.new hN
      have a2 := a'.new (o := .tup [.int (i : Nat), y1]) hN
      have w3 := w'.trans w2
      refine hs i e ds' ms' e1 p' L M σ' _ (.ref N) (s'.mono a' w2) a2 (Rp.tup (a'.fresh hN) upd_same (.cons (.int _) (.cons (Rp.to (a1.wk w3) _ _ e2) .nil))) _ fun σ2 ds2 s2 _ h2 => ?_
      exact h2 L M σ2 _ s2 a2 _ (fun σ3 H3 ds3 ms3 w4 s3 a3 p3 => ⟨ds3, ms3, w3.trans w4, s3, a3, p3⟩) (r.on a2 (w.trans w3)) (n.on (w.trans w3)) (fun σ3 H3 ds3 ms3 w4 s3 a3 p3 => ⟨ds3, ms3, w3.trans w4, s3, a3, p3⟩)
    · rw [rx.length] at p'
      exact n σ' H' ds' ms' (w.trans w') s' a' (hd ds' ms' p')
theorem s_forEL {g : TG} {js : List Nat} (h : EA K tA ds ms fun as ms0 => ∃ (s : SD) (es : List PyData), as = [s] ∧ Sw s es ∧ ∃ Pv : Nat → List SD → List MD → Prop, Pv 0 ds ms0 ∧
      (∀ i e ds1 ms1, es[i]? = some e → Pv i ds1 ms1 → EG K g js (.d (.tuple [.int (i : Nat), e])) ds1 ms1 fun ds2 ms2 => S K t ds2 ms2 { P with nx := Pv (i + 1), ct := Pv (i + 1), bk := P.nx }) ∧ ∀ ds1 ms1, Pv es.length ds1 ms1 → P.nx ds1 ms1) :
    S K (tFor (iEnum K tA) g t) ds ms P := fun L M σ H hS hA D n r b c =>
  h L M σ H hS hA _ fun as vs H1 ms0 w a1 o ⟨s, es, ea, sw, Pv, h0, hs, hd⟩ => by
    subst ea
    obtain ⟨v, t1, rfl, hv, rfl⟩ := o
    obtain ⟨a, xs, rfl, rx, hx⟩ := sw.is a1 hv
    refine ⟨a, xs, rfl, hx H1 (Wk.refl L H1), for_it walk_enum (fun i σ' H' => ∃ ds' ms', Wk L H1 H' ∧ Sl K L M σ' H' ds' ∧ At L M ms' H' ∧ Pv i ds' ms') ⟨ds, ms0, Wk.refl L H1, hS.mono hA w, a1, h0⟩ (fun i σ' H' _ ⟨_, _, w', _⟩ => hx H' w') (fun i x σ' H' H2 hi ⟨ds', ms', w', s', a', p'⟩ y => ?_) (fun σ' H' ⟨ds', ms', w', s', a', p'⟩ => ?_)⟩
    · obtain ⟨N, c1, y1, rfl, hN, rfl, q1, q2⟩ := y
      cases q1
      obtain ⟨e, e1, e2⟩ := rx.get' q2
      have w2 : Wk L H' (upd H' N (.tup [.int (i : Nat), y1])) := Wk.new hN
      have a2 := a'.new (o := .tup [.int (i : Nat), y1]) hN
      have w3 := w'.trans w2
      refine hs i e ds' ms' e1 p' L M σ' _ (.ref N) (s'.mono a' w2) a2 (Rp.tup (a'.fresh hN) upd_same (.cons (.int _) (.cons (Rp.to (a1.wk w3) _ _ e2) .nil))) _ fun σ2 ds2 s2 _ h2 => ?_
      exact h2 L M σ2 _ s2 a2 _ (fun σ3 H3 ds3 ms3 w4 s3 a3 p3 => ⟨ds3, ms3, w3.trans w4, s3, a3, p3⟩) (r.on a2 (w.trans w3)) (n.on (w.trans w3)) (fun σ3 H3 ds3 ms3 w4 s3 a3 p3 => ⟨ds3, ms3, w3.trans w4, s3, a3, p3⟩)
    · rw [rx.length] at p'
      exact n σ' H' ds' ms' (w.trans w') s' a' (hd ds' ms' p')
/-- xs.pop(i) of any list that may change -/
theorem e_popD (h : E K ta ds ms fun s ms1 => ∃ k, s = .m k ∧ E K te ds ms1 fun x ms2 => ∃ (es : List PyData) (i : Nat) (d : PyData), x = .d (.int i) ∧ ms2[k]? = some (.l es) ∧ es[i]? = some d ∧ es.length ≤ 10000 ∧ R (.d d) (ms2.set k (.l (es.eraseIdx i)))) : E K (tBM K "list" rPopAt ta (tCons te tNil)) ds ms R := fun L M σ H hS hA Q q =>
  h L M σ H hS hA _ fun s v H1 ms1 w o ⟨k, e, h2⟩ => by
    subst e
    obtain ⟨a1, p, rfl, hp⟩ := o
    have hpL : p ∈ L := List.mem_of_getElem? hp
    have hk : k < ms1.length := by rw [← a1.ln]; exact (List.getElem?_eq_some_iff.mp hp).1
    cases hm : ms1[k] with
    | l es0 =>
      obtain ⟨xs0, e0, _⟩ := a1.get hp (es := es0) (by rw [List.getElem?_eq_getElem hk, hm])
      refine ⟨.inl ⟨rfl, xs0, SqL.of e0⟩, ?_⟩
      refine h2 L M σ H1 (hS.mono hA w) a1 _ fun x y H2 ms2 w2 o2 ⟨es, i, d, ex, em, hz, hl, r⟩ => ?_
      subst ex
      obtain ⟨a2, o⟩ := o2
      cases o
      obtain ⟨xs, e1, r1⟩ := a2.get hp em
      have hi := (List.getElem?_eq_some_iff.mp hz).1
      have ln := r1.length
      have er : ∀ (xs : List V) (es : List PyData), RpA M H2 xs es → ∀ i, RpA M H2 (xs.eraseIdx i) (es.eraseIdx i) := fun xs => by
        induction xs with
        | nil => intro es r i; cases r; exact .nil
        | cons x xs ih =>
          intro es r i
          cases r with
          | cons z y =>
            cases i with
            | zero => exact y
            | succ j => exact .cons z (ih _ y j)
      have hix : i < xs.length := by omega
      obtain ⟨d', f1, f2⟩ := r1.get' (List.getElem?_eq_getElem hix)
      rw [hz] at f1
      cases f1
      refine ⟨p, xs, i, i, xs[i], rfl, rfl, e1, by omega, by omega, ?_, List.getElem?_eq_getElem hix, ?_⟩
      · unfold seqIndex?
        rw [if_neg (show ¬ (i : Int) < 0 by omega)]
        simp [hix]
      · have tt : To M M H2 (upd H2 p (.lst (xs.eraseIdx i))) := fun b o nb q => ⟨nb, by rw [upd_ne (fun z : b = p => nb (by rw [z]; exact a2.sub p hpL))]; exact q⟩
        exact q (.d d) _ _ _ ((w.trans w2).trans (Wk.mut hpL)) ⟨a2.put hp (er _ _ r1 i), Rp.to tt _ _ f2⟩ r
end
end Hc

namespace Hc
open PySem PySem.Spec PyProof.Rows L2
/-! ### sorted(xs) of data -/
theorem vals_each : ∀ {bs : List (V × PyData)} {us : List Value}, Vals (bs.map Prod.fst) us → PySem.W.EachIs (fun (u : Value) (b : V × PyData) => RelV b.1 u) us bs
  | [], us, h => by cases h; exact .nil
  | b :: r, us, h => by
    cases h with
    | cons z y => exact .cons z (vals_each y)
theorem each_vals : ∀ {bs : List (V × PyData)} {us : List Value}, PySem.W.EachIs (fun (u : Value) (b : V × PyData) => RelV b.1 u) us bs → Vals (bs.map Prod.fst) us
  | [], us, h => by cases h; exact .nil
  | b :: r, us, h => by
    cases h with
    | cons z y => exact .cons z (each_vals y)
def rSortV (K : PySem.W.Frag) : List V → Hp → VK → Prop := fun vs H Q => ∃ (a : Addr) (bs : List (V × PyData)), vs = [.ref a] ∧ SqL K H a (bs.map Prod.fst) ∧ (∀ b ∈ bs, Dp K H b.1 b.2) ∧ PySem.W.AllAlike (bs.map Prod.snd) ∧ PySem.W.Sortable (bs.map Prod.snd) ∧
  (∀ b ∈ bs, b.2.depth ≤ 60) ∧ ∀ p, H p = none → Q (.ref p) (upd H p (.lst ((bs.mergeSort (PySem.W.dataLe false Prod.snd)).map Prod.fst)))
theorem cr_sortV {X : Cx} (hu : X.A.units + 64 < cLine) : CallR X (.builtin "sorted") (rSortV X.K) := by
  intro pins s σ H vs us Q I r h
  obtain ⟨a, bs, rfl, sq, hd, al, so, dp, q⟩ := h
  obtain ⟨its, rv, hl, hz⟩ := I.list sq
  rw [Vals.ref1 r]
  have e := vals_each rv
  have er : PySem.W.EachIs (fun (u : Value) (b : V × PyData) => ∃ as, Reads s.heap u b.2 as) its bs :=
    (PySem.W.each_mem e).mono fun u b ⟨z, m⟩ => Dp.reads I b.2 b.1 u (hd b m) z
  rw [List.length_map] at hz
  refine PySem.W.sorted_data hl.isList e er al so hz (fun b m => by have := dp b m; omega) fun out ln eo => ?_
  obtain ⟨ep, he⟩ := PyProof.Rows.sortedAll_at s.heap its out.toArray
  have lm : ((bs.mergeSort (PySem.W.dataLe false Prod.snd)).map Prod.fst).length ≤ sizeLine := by
    rw [List.length_map, List.length_mergeSort]
    exact hz
  exact ⟨.ref _, upd H (s.heap.objs.size + 1) (.lst ((bs.mergeSort (PySem.W.dataLe false Prod.snd)).map Prod.fst)), I.laid (t' := s.toks) (fun _ _ => PyProof.Rows.sortedAll_old) (Nat.le_succ _) ⟨lm, out, ep, each_vals eo, he⟩, rfl, q _ (I.hok.fresh (Nat.le_succ _))⟩
section
variable {K : PySem.W.Frag} {ds : List SD} {ms : List MD} {R : RS}
theorem zip_fst : ∀ {xs : List V} {es : List PyData}, xs.length = es.length → (List.zip xs es).map Prod.fst = xs
  | [], _, _ => rfl
  | _ :: _, [], h => by cases h
  | x :: xs, e :: es, h => by
    show x :: (List.zip xs es).map Prod.fst = _
    rw [zip_fst (by simpa using h)]
theorem zip_snd : ∀ {xs : List V} {es : List PyData}, xs.length = es.length → (List.zip xs es).map Prod.snd = es
  | [], [], _ => rfl
  | [], _ :: _, h => by cases h
  | _ :: _, [], h => by cases h
  | x :: xs, e :: es, h => by
    show e :: (List.zip xs es).map Prod.snd = _
    rw [zip_snd (by simpa using h)]
theorem rpa_zip {M : List Addr} {H : Hp} : ∀ {xs : List V} {es : List PyData}, RpA M H xs es → ∀ b ∈ List.zip xs es, Rp M H b.1 b.2
  | [], _, _, b, hb => by cases hb
  | x :: xs, es, h, b, hb => by
    cases h with
    | cons z y =>
      rcases List.mem_cons.mp hb with rfl | hb
      · exact z
      · exact rpa_zip y b hb
theorem rpa_of {M : List Addr} {H : Hp} : ∀ {bs : List (V × PyData)}, (∀ b ∈ bs, Rp M H b.1 b.2) → RpA M H (bs.map Prod.fst) (bs.map Prod.snd)
  | [], _ => .nil
  | b :: r, h => .cons (h b (by simp)) (rpa_of fun c hc => h c (by simp [hc]))
abbrev sortD (es : List PyData) : List PyData := es.mergeSort (PySem.W.dataLe false id)
theorem rc_sortD {as : List SD} (h : ∃ (s : SD) (es : List PyData), as = [s] ∧ Sv ms s (.list es) ∧ (∀ e ∈ es, Shp 60 e) ∧ PySem.W.AllAlike es ∧ PySem.W.Sortable es ∧ R (.f (sortD es)) ms) : RC K (rSortV K) as ms R := fun L M H vs hA ha Q q => by
  obtain ⟨s, es, rfl, sv, sh, al, so, r⟩ := h
  obtain ⟨v, t, rfl, hv, rfl⟩ := ha
  obtain ⟨p, xs, rfl, hq, hr⟩ := sv.lst hA hv
  have ln := hr.length
  have zr := rpa_zip hr
  have e2 : ((List.zip xs es).mergeSort (PySem.W.dataLe false Prod.snd)).map Prod.snd = sortD es := by
    have := PySem.W.sort_maps (r := PySem.W.dataLe false Prod.snd) (s := PySem.W.dataLe false id) (Prod.snd : V × PyData → PyData) (l := List.zip xs es) (fun a _ b _ => rfl)
    rw [this, zip_snd ln]
  refine ⟨p, List.zip xs es, rfl, by rw [zip_fst ln]; exact hq, fun b hb => ?_, by rw [zip_snd ln]; exact al, by rw [zip_snd ln]; exact so, fun b hb => ?_, fun l hl => ?_⟩
  · have m2 : b.2 ∈ es := by
      have : b.2 ∈ (List.zip xs es).map Prod.snd := List.mem_map.mpr ⟨b, hb, rfl⟩
      rwa [zip_snd ln] at this
    exact Rp.dp b.2 b.1 (sh _ m2).1 (zr b hb)
  · have m2 : b.2 ∈ es := by
      have : b.2 ∈ (List.zip xs es).map Prod.snd := List.mem_map.mpr ⟨b, hb, rfl⟩
      rwa [zip_snd ln] at this
    exact (sh _ m2).2
  · have rr : RpA M H (((List.zip xs es).mergeSort (PySem.W.dataLe false Prod.snd)).map Prod.fst) (sortD es) := by
      rw [← e2]
      exact rpa_of fun b hb => zr b (List.mem_mergeSort.mp hb)
    exact q (.f (sortD es)) _ _ ms (Wk.new hl) (out_new hA (Wk.refl L H) hl rr) r
end
end Hc

namespace Hc
open PySem PySem.Spec PyProof.Rows L2
section
variable {K : PySem.W.Frag} {te ta tb tc tl : TE} {tt : TT} {tA : TA} {ds : List SD} {ms : List MD} {R : RS} {t u : TS} {P : Po}
/-! ### in, over data -/
theorem rr_inD {a b : SD} (h : ∃ (x : PyData) (es : List PyData), Sv ms a x ∧ Sv ms b (.list es) ∧ SeqAt.shaped x = true ∧ SeqAt.shaped (.list es) = true ∧ R (.d (.bool (es.any fun z => PyData.eqv z x))) ms) : RR K (rInD K) a b ms R := fun L M H u v hA ha hb Q q => by
  obtain ⟨x, es, ea, eb, s1, s2, r⟩ := h
  exact ⟨x, es, ea.dp hA ha (SeqAt.canLay_of_shaped s1), eb.dp hA hb (SeqAt.canLay_of_shaped s2), s1, s2, q (.d _) _ H ms (Wk.refl L H) ⟨hA, .bl _⟩ r⟩
theorem rr_notInD {a b : SD} (h : ∃ (x : PyData) (es : List PyData), Sv ms a x ∧ Sv ms b (.list es) ∧ SeqAt.shaped x = true ∧ SeqAt.shaped (.list es) = true ∧ R (.d (.bool (!es.any fun z => PyData.eqv z x))) ms) : RR K (rNotInD K) a b ms R := fun L M H u v hA ha hb Q q => by
  obtain ⟨x, es, ea, eb, s1, s2, r⟩ := h
  exact ⟨x, es, ea.dp hA ha (SeqAt.canLay_of_shaped s1), eb.dp hA hb (SeqAt.canLay_of_shaped s2), s1, s2, q (.d _) _ H ms (Wk.refl L H) ⟨hA, .bl _⟩ r⟩
/-! ### for a, b in zip(xs, ys), two lists -/
theorem s_forZ {g : TG} {js : List Nat} (h : EA K tA ds ms fun as ms0 => ∃ (s1 s2 : SD) (es fs : List PyData), as = [s1, s2] ∧ Sw s1 es ∧ Sw s2 fs ∧ ∃ Pv : Nat → List SD → List MD → Prop, Pv 0 ds ms0 ∧
      (∀ i e f ds1 ms1, es[i]? = some e → fs[i]? = some f → Pv i ds1 ms1 → EG K g js (.d (.tuple [e, f])) ds1 ms1 fun ds2 ms2 => S K t ds2 ms2 { P with nx := Pv (i + 1), ct := Pv (i + 1), bk := P.nx }) ∧ ∀ ds1 ms1, Pv (min es.length fs.length) ds1 ms1 → P.nx ds1 ms1) :
    S K (tFor (iZip K tA) g t) ds ms P := fun L M σ H hS hA D n r b c =>
  h L M σ H hS hA _ fun as vs H1 ms0 w a1 o ⟨s1, s2, es, fs, ea, sw1, sw2, Pv, h0, hs, hd⟩ => by
    subst ea
    obtain ⟨v1, t1, rfl, hv1, v2, t2, rfl, hv2, rfl⟩ := o
    obtain ⟨a, xs, rfl, rx, hx⟩ := sw1.is a1 hv1
    obtain ⟨b', ys, rfl, ry, hy⟩ := sw2.is a1 hv2
    refine ⟨a, b', xs, ys, rfl, hx H1 (Wk.refl L H1), hy H1 (Wk.refl L H1), for_it (walk_zip rfl) (fun i σ' H' => ∃ ds' ms', Wk L H1 H' ∧ Sl K L M σ' H' ds' ∧ At L M ms' H' ∧ Pv i ds' ms') ⟨ds, ms0, Wk.refl L H1, hS.mono hA w, a1, h0⟩ (fun i σ' H' _ ⟨_, _, w', _⟩ => ⟨hx H' w', hy H' w'⟩) (fun i x σ' H' H2 hi ⟨ds', ms', w', s', a', p'⟩ y => ?_) (fun σ' H' ⟨ds', ms', w', s', a', p'⟩ => ?_)⟩
    · obtain ⟨N, x1, y1, rfl, hN, rfl, q1, q2⟩ := y
      obtain ⟨e, e1, e2⟩ := rx.get' q1
      obtain ⟨f, f1, f2⟩ := ry.get' q2
      have w2 : Wk L H' (upd H' N (.tup [x1, y1])) := Wk.new hN
      have a2 := a'.new (o := .tup [x1, y1]) hN
      have w3 := w'.trans w2
      refine hs i e f ds' ms' e1 f1 p' L M σ' _ (.ref N) (s'.mono a' w2) a2 (Rp.tup (a'.fresh hN) upd_same (.cons (Rp.to (a1.wk w3) _ _ e2) (.cons (Rp.to (a1.wk w3) _ _ f2) .nil))) _ fun σ2 ds2 s2 _ h2 => ?_
      exact h2 L M σ2 _ s2 a2 _ (fun σ3 H3 ds3 ms3 w4 s3 a3 p3 => ⟨ds3, ms3, w3.trans w4, s3, a3, p3⟩) (r.on a2 (w.trans w3)) (n.on (w.trans w3)) (fun σ3 H3 ds3 ms3 w4 s3 a3 p3 => ⟨ds3, ms3, w3.trans w4, s3, a3, p3⟩)
    · rw [rx.length, ry.length] at p'
      exact n σ' H' ds' ms' (w.trans w') s' a' (hd ds' ms' p')
/-! ### xs.insert(i, e) -/
abbrev rIns : V → List V → Hp → VK → Prop := fun x vs H Q => ∃ (l : Addr) (xs : List V) (i : Int) (y : V), x = .ref l ∧ vs = [.int i, y] ∧ H l = some (.lst xs) ∧ xs.length < sizeLine ∧ 0 ≤ i ∧ i < 2 ^ 63 ∧ Q .non (upd H l (.lst (xs.take i.toNat ++ [y] ++ xs.drop i.toNat)))
theorem e_insert (h : E K ta ds ms fun s ms1 => ∃ k, s = .m k ∧ EA K tA ds ms1 fun as ms2 => ∃ (i : Nat) (d : PyData) (es : List PyData), as = [.d (.int i), .d d] ∧ ms2[k]? = some (.l es) ∧ i ≤ 10000 ∧ es.length < 10000 ∧ R (.d .none) (ms2.set k (.l (es.take i ++ [d] ++ es.drop i)))) : E K (tBM K "list" rIns ta tA) ds ms R := fun L M σ H hS hA Q q =>
  h L M σ H hS hA _ fun s v H1 ms1 w o ⟨k, e, h2⟩ => by
    subst e
    obtain ⟨a1, p, rfl, hp⟩ := o
    have hpL : p ∈ L := List.mem_of_getElem? hp
    have hk : k < ms1.length := by rw [← a1.ln]; exact (List.getElem?_eq_some_iff.mp hp).1
    cases hm : ms1[k] with
    | l es0 =>
      obtain ⟨xs0, e0, _⟩ := a1.get hp (es := es0) (by rw [List.getElem?_eq_getElem hk, hm])
      refine ⟨.inl ⟨rfl, xs0, SqL.of e0⟩, ?_⟩
      refine h2 L M σ H1 (hS.mono hA w) a1 _ fun as us H2 ms2 w2 a2 o2 ⟨i, d, es, ex, em, hi, hl, r⟩ => ?_
      subst ex
      obtain ⟨v1, t1, rfl, hv1, v2, t2, rfl, hv2, rfl⟩ := o2
      have hv1' : Rp M H2 v1 (.int i) := hv1
      cases hv1'
      have hv2' : Rp M H2 v2 d := hv2
      obtain ⟨xs, e1, r1⟩ := a2.get hp em
      have ln := r1.length
      have tk : ∀ (xs : List V) (es : List PyData), RpA M H2 xs es → ∀ i, RpA M H2 (xs.take i ++ [v2] ++ xs.drop i) (es.take i ++ [d] ++ es.drop i) := fun xs => by
        induction xs with
        | nil => intro es r i; cases r; simp; exact .cons hv2' .nil
        | cons x xs ih =>
          intro es r i
          cases r with
          | cons z y =>
            cases i with
            | zero => exact .cons hv2' (.cons z y)
            | succ j => exact .cons z (ih _ y j)
      refine ⟨p, xs, i, v2, rfl, rfl, e1, by rw [ln]; exact Nat.lt_trans hl (by decide), by omega, by omega, ?_⟩
      exact q (.d .none) _ _ _ ((w.trans w2).trans (Wk.mut hpL)) ⟨a2.put hp (tk _ _ r1 i), .non⟩ r
/-! ### a part of a list, or of a tuple that may be the whole -/
def rSlQ (K : PySem.W.Frag) : V → Option Int → Option Int → Hp → VK → Prop := fun x lo hi H Q => rSlL K x lo hi H Q ∨ rSlA K x lo hi H Q
theorem sl_rowQ {X : Cx} : SlR X (rSlQ X.K) := fun pins s σ H x v vl vu lo hi sl Q I rx i1 i2 i3 h => by
  rcases h with h | h
  · exact sl_list pins s σ H x v vl vu lo hi sl Q I rx i1 i2 i3 h
  · exact sl_tupA pins s σ H x v vl vu lo hi sl Q I rx i1 i2 i3 h
theorem upd_upd (H : Hp) (p : Addr) (a b : HO) : upd (upd H p a) p b = upd H p b := funext fun c => by
  by_cases e : c = p
  · subst e; rw [upd_same, upd_same]
  · rw [upd_ne e, upd_ne e, upd_ne e]
theorem e_dispC {k v : Int} (h : ∀ kvs, R (.d (.dict kvs)) ms) : E K (tDisp [(tC (.int k), tC (.int v))]) ds ms R := fun L M σ H hS hA Q q p hp => by
  refine ⟨upd_same, [(.inl k, .int v)], rfl, Nat.le_of_ble_eq_true rfl, ?_⟩
  rw [upd_upd]
  exact q (.d (.dict [])) _ _ ms (Wk.new hp) ⟨hA.new hp, .dct (hA.fresh hp) upd_same⟩ (h [])
theorem units65 {k : Nat} {A : Around} (h : Room k A) : A.units + 65 < cLine := by
  have := h.un
  omega
theorem pe_callD0 {X : Cx} {x : Str} {lv : Nat} {ps : List Str} {Φ : Ph} {p pos : Pos} (h : Kn X.prog X.w X.K X.mg X.base x lv ps Φ) (hr : Room lv X.A) (hg : Gl X x) (hdb : (x == ("__debug__" : Str)) = false := by decide) :
    PE X (.Call (.Name x p) [] [] pos) (tCall (SpD X.K Φ) [] E0 tNil) := by
  obtain ⟨f, fd, G, m, k, b⟩ := h.ex
  exact pe_call0 G hr hg m k b .nil pass0 hdb
theorem pe_num {X : Cx} {x : Str} {n : Int} {pos : Pos} (hg : Gl X x) (h : ∃ t, X.mg x = some (.int n t)) (hdb : (x == ("__debug__" : Str)) = false := by decide) : PE X (.Name x pos) (tC (.int n)) := by
  obtain ⟨t, m⟩ := h
  exact pe_glob hg m ⟨_, rfl⟩ hdb
/-! ### a, b = t of a list or a tuple -/
def gRw (K : PySem.W.Frag) (n : Nat) (gs : TGs) : TG := fun v σ H C => gTup K n gs v σ H C ∨ gUnl K n gs v σ H C
theorem pg_rw {X : Cx} {pos : Pos} {es : List Expr} {k : Nat} {gs : TGs} {n : Nat} (hc : X.calm = true) (h : PGs X es gs) (h1 : (assignEach es X.env).length = n := by rfl) (h2 : List.findIdx? (fun x => x.fst) (assignEach es X.env) = none := by rfl) :
    PG X (.Tuple es k pos) (gRw X.K n gs) := ⟨fun pins s σ H v u Q I rv z => by
  rcases z with z | z
  · exact (pg_tup hc h h1 h2).run pins s σ H v u Q I rv z
  · exact (pg_unl hc h h1 h2).run pins s σ H v u Q I rv z⟩
theorem eg_rw {gs : TGs} {js : List Nat} {n : Nat} {x : PyData} {xs : List PyData} {N : List SD → List MD → Prop} (hx : x = .list xs ∨ x = .tuple xs) (hn : xs.length = n) (h : EGs K gs js xs ds ms N) : EG K (gRw K n gs) js (.d x) ds ms N := fun L M σ H v hS hA ho C c => by
  rcases hx with rfl | rfl
  · obtain ⟨a, ys, rfl, e, r⟩ := Sv.lst (ms := ms) (K := K) (L := L) (.d (.list xs)) hA ho
    exact .inr ⟨a, ys, rfl, e, by rw [r.length]; exact hn, h L M σ H ys hS hA r C c⟩
  · exact .inl (eg_tup hn h L M σ H v hS hA ho C c)
/-- t[:] of a list is a new one, of a tuple the same -/
theorem e_slQ (h : E K te ds ms fun s ms1 => ∃ (x : PyData) (xs : List PyData), s = .d x ∧ ((x = .list xs ∧ R (.f xs) ms1) ∨ (x = .tuple xs ∧ R (.d x) ms1))) : E K (tSl (rSlQ K) te tNoPart tNoPart) ds ms R := fun L M σ H hS hA Q q =>
  h L M σ H hS hA _ fun s v H1 ms1 w1 o1 ⟨x, xs, e, hh⟩ => by
    subst e
    obtain ⟨a1, o⟩ := o1
    rcases hh with ⟨rfl, r⟩ | ⟨rfl, r⟩
    · obtain ⟨p, ys, rfl, hq, hr⟩ := Sv.lst (ms := ms1) (K := K) (L := L) (.d (.list xs)) a1 o
      have cu : cutD xs none none = xs := by
        unfold cutD
        rw [HT.sIx_none, HT.sIx_none]
        simp
      refine .inl ⟨p, ys, rfl, hq, fun l hl => ?_⟩
      have rr := cut_of hr none none
      rw [cu] at rr
      exact q (.f xs) _ _ ms1 (w1.trans (Wk.new hl)) (out_new a1 w1 hl rr) r
    · obtain ⟨p, ys, rfl, e1, hr⟩ := Sv.tup (ms := ms1) (K := K) (L := L) (.d (.tuple xs)) o
      refine .inr ⟨p, ys, rfl, SqT.of e1, fun _ => q (.d (.tuple xs)) _ H1 ms1 w1 ⟨a1, o⟩ r, fun z => absurd ⟨HT.sIx_none .., HT.sIx_none ..⟩ z⟩
/-- for a, b in zip(xs, ys), whose body may raise -/
theorem sx_forZ {C : Addr} {Y : List MD → Prop} {g : TG} {js : List Nat} {t : XK → TS} (h : EA K tA ds ms fun as ms0 => ∃ (s1 s2 : SD) (es fs : List PyData), as = [s1, s2] ∧ Sw s1 es ∧ Sw s2 fs ∧ ∃ Pv : Nat → List SD → List MD → Prop, Pv 0 ds ms0 ∧
      (∀ i e f ds1 ms1, es[i]? = some e → fs[i]? = some f → Pv i ds1 ms1 → EG K g js (.d (.tuple [e, f])) ds1 ms1 fun ds2 ms2 => SX K C t ds2 ms2 { P with nx := Pv (i + 1), ct := Pv (i + 1), bk := P.nx } Y) ∧ ∀ ds1 ms1, Pv (min es.length fs.length) ds1 ms1 → P.nx ds1 ms1) :
    SX K C (fun X => tFor (iZip K tA) g (t X)) ds ms P Y := fun L M σ H hS hA D X n r b c xx =>
  h L M σ H hS hA _ fun as vs H1 ms0 w a1 o ⟨s1, s2, es, fs, ea, sw1, sw2, Pv, h0, hs, hd⟩ => by
    subst ea
    obtain ⟨v1, t1, rfl, hv1, v2, t2, rfl, hv2, rfl⟩ := o
    obtain ⟨a, xs, rfl, rx, hx⟩ := sw1.is a1 hv1
    obtain ⟨b', ys, rfl, ry, hy⟩ := sw2.is a1 hv2
    refine ⟨a, b', xs, ys, rfl, hx H1 (Wk.refl L H1), hy H1 (Wk.refl L H1), for_it (walk_zip rfl) (fun i σ' H' => ∃ ds' ms', Wk L H1 H' ∧ Sl K L M σ' H' ds' ∧ At L M ms' H' ∧ Pv i ds' ms') ⟨ds, ms0, Wk.refl L H1, hS.mono hA w, a1, h0⟩ (fun i σ' H' _ ⟨_, _, w', _⟩ => ⟨hx H' w', hy H' w'⟩) (fun i x σ' H' H2 hi ⟨ds', ms', w', s', a', p'⟩ y => ?_) (fun σ' H' ⟨ds', ms', w', s', a', p'⟩ => ?_)⟩
    · obtain ⟨N, x1, y1, rfl, hN, rfl, q1, q2⟩ := y
      obtain ⟨e, e1, e2⟩ := rx.get' q1
      obtain ⟨f, f1, f2⟩ := ry.get' q2
      have w2 : Wk L H' (upd H' N (.tup [x1, y1])) := Wk.new hN
      have a2 := a'.new (o := .tup [x1, y1]) hN
      have w3 := w'.trans w2
      refine hs i e f ds' ms' e1 f1 p' L M σ' _ (.ref N) (s'.mono a' w2) a2 (Rp.tup (a'.fresh hN) upd_same (.cons (Rp.to (a1.wk w3) _ _ e2) (.cons (Rp.to (a1.wk w3) _ _ f2) .nil))) _ fun σ2 ds2 s2 _ h2 => ?_
      exact h2 L M σ2 _ s2 a2 _ X (fun σ3 H3 ds3 ms3 w4 s3 a3 p3 => ⟨ds3, ms3, w3.trans w4, s3, a3, p3⟩) (r.on a2 (w.trans w3)) (n.on (w.trans w3)) (fun σ3 H3 ds3 ms3 w4 s3 a3 p3 => ⟨ds3, ms3, w3.trans w4, s3, a3, p3⟩) (xx.on (w.trans w3))
    · rw [rx.length, ry.length] at p'
      exact n σ' H' ds' ms' (w.trans w') s' a' (hd ds' ms' p')
end
end Hc

namespace Hc
open PySem PySem.Spec PyProof.Rows L2
/-! ### xs[::2], xs[1::2] -/
def ev2 {α : Type} : List α → List α
  | [] => []
  | [a] => [a]
  | a :: _ :: r => a :: ev2 r
theorem ev2_len {α : Type} : ∀ l : List α, (ev2 l).length = (l.length + 1) / 2
  | [] => by simp [ev2]
  | [a] => by simp [ev2]
  | a :: b :: r => by simp only [ev2, List.length_cons, ev2_len r]; omega
theorem ev2_range {α : Type} : ∀ l : List α, (List.range ((l.length + 1) / 2)).filterMap (fun k => l[2 * k]?) = ev2 l
  | [] => by simp [ev2]
  | [a] => by simp [ev2, List.range_succ]
  | a :: b :: r => by
    have e : ((a :: b :: r).length + 1) / 2 = (r.length + 1) / 2 + 1 := by simp only [List.length_cons]; omega
    rw [e, List.range_succ_eq_map, List.filterMap_cons]
    rw [ev2, ← ev2_range r, List.filterMap_map]
    rfl
/-- what a part with these three marks picks -/
def pk {α : Type} (l : List α) (lo hi st : Option Int) : List α := (sliceRange (sliceBounds lo hi st l.length).1 (sliceBounds lo hi st l.length).2.1 (sliceBounds lo hi st l.length).2.2).filterMap fun k => l[k]?
theorem pk_arr (us : List Value) (lo hi st : Option Int) : slicePick us.toArray lo hi st = (pk us lo hi st).toArray := by
  unfold slicePick pk
  simp only [List.size_toArray, List.getElem?_toArray]
theorem fm_congr {α : Type} (f g : Nat → Option α) : ∀ l : List Nat, (∀ k ∈ l, f k = g k) → l.filterMap f = l.filterMap g
  | [], _ => rfl
  | a :: r, h => by rw [List.filterMap_cons, List.filterMap_cons, h a (by simp), fm_congr f g r fun k hk => h k (by simp [hk])]
theorem pk_step {α : Type} (l : List α) (j : Nat) (hj : j ≤ 1) : pk l (if j = 0 then none else some (j : Int)) none (some 2) = ev2 (l.drop j) := by
  have hb : sliceBounds (if j = 0 then none else some (j : Int)) none (some 2) l.length = (((min j l.length : Nat) : Int), (l.length : Int), (2 : Int)) := by
    unfold sliceBounds
    by_cases h : j = 0
    · subst h; simp
    · have : j = 1 := by omega
      subst this
      simp
      omega
  unfold pk
  rw [hb]
  have hl : (l.drop j).length = l.length - j := by simp
  rw [← ev2_range, hl]
  have hc : sliceRange ((min j l.length : Nat) : Int) (l.length : Int) 2 = (List.range ((l.length - j + 1) / 2)).map fun k => min j l.length + 2 * k := by
    unfold sliceRange
    have e1 : (if (2 : Int) > 0 then (if ((min j l.length : Nat) : Int) < (l.length : Int) then ((l.length : Int) - ((min j l.length : Nat) : Int) + 2 - 1) / 2 else 0) else (if ((min j l.length : Nat) : Int) > (l.length : Int) then (((min j l.length : Nat) : Int) - (l.length : Int) - 2 - 1) / (-2) else 0)).toNat = (l.length - j + 1) / 2 := by
      rw [if_pos (by decide)]
      split <;> omega
    show (List.range _).map _ = _
    rw [e1]
    apply List.map_congr_left
    intro k _
    omega
  show (sliceRange ((min j l.length : Nat) : Int) (l.length : Int) 2).filterMap _ = _
  rw [hc, List.filterMap_map]
  refine fm_congr _ _ _ fun k hk => ?_
  have hk2 := List.mem_range.mp hk
  have hm : min j l.length = j := by omega
  show l[min j l.length + 2 * k]? = (l.drop j)[2 * k]?
  rw [hm, List.getElem?_drop]
theorem vals_pick {xs : List V} {us : List Value} (r : Vals xs us) : ∀ ks : List Nat, Vals (ks.filterMap fun k => xs[k]?) (ks.filterMap fun k => us[k]?)
  | [] => .nil
  | k :: t => by
    have ih := vals_pick r t
    have hl := r.length
    cases e : xs[k]? with
    | none =>
      have e2 : us[k]? = none := by
        rw [List.getElem?_eq_none_iff] at e ⊢
        omega
      rw [List.filterMap_cons, List.filterMap_cons, e, e2]
      exact ih
    | some x =>
      obtain ⟨u, e2, ru⟩ := r.get e
      rw [List.filterMap_cons, List.filterMap_cons, e, e2]
      exact .cons ru ih
/-- an expression, asked for less -/
theorem pe_weak {X : Cx} {e : Expr} {te : TE} (he : PE X e te) : PE X e fun σ H Q => ∃ R : VK, te σ H R ∧ ∀ x H1, R x H1 → Q x H1 := by
  constructor
  rintro pins s σ H Q I ⟨R, h, m⟩
  refine thn (he.run pins s σ H R I h) ?_
  rintro v s1 ⟨x, H1, I1, rx, r1⟩
  exact ⟨x, H1, I1, rx, m x H1 r1⟩
/-- xs[a:b:c] of a list, whatever the three are -/
def tSl3 (K : PySem.W.Frag) (te : TE) (tl tu tc : TO) : TE := fun σ H Q => te σ H fun x H1 => tl σ H1 fun lo H2 => tu σ H2 fun hi H3 => tc σ H3 fun st H4 =>
  ∃ a xs, x = .ref a ∧ st ≠ some 0 ∧ SqL K H4 a xs ∧ (xs.length ≤ sizeLine → (pk xs lo hi st).length ≤ sizeLine) ∧ ∀ p, H4 p = none → Q (.ref p) (upd H4 p (.lst (pk xs lo hi st)))
theorem pe_slL3 {X : Cx} {e : Expr} {te : TE} {lo hi : Option Expr} {ce : Expr} {tl tu tc : TO} {p3 pos : Pos} (he : PE X e te) (hl : PO X lo tl) (hu : PO X hi tu) (hc : PO X (some ce) tc) : PE X (.Subscript e (.Slice lo hi (some ce) p3) pos) (tSl3 X.K te tl tu tc) := by
  constructor
  intro pins s0 σ H0 Q I0 h0
  refine Subscript_ (thn (he.run pins s0 σ H0 _ I0 h0) ?_)
  rintro v s1 ⟨x, H1, I1, rx, h1⟩
  refine wpAny_Slice (thn (hl.run pins s1 σ H1 _ I1 h1) ?_)
  rintro vl s2 ⟨ol, H2, I2, il, h2⟩
  refine thn (hu.run pins s2 σ H2 _ I2 h2) ?_
  rintro vu s3 ⟨ou, H3, I3, iu, h3⟩
  refine thn (hc.run pins s3 σ H3 _ I3 h3) ?_
  rintro vc s4 ⟨oc, H4, I4, ic, a, xs, ex, nz, sq, zp, q⟩
  subst ex
  cases rx
  have kp : ∀ b u, s4.heap.get? b = some u → (s4.heap.push { cls := .type "slice", data := .fields #[vl, vu, vc] }).get? b = some u := fun b u z => Heap.get?_push_of_some _ z
  have I5 := I4.kept (t' := s4.toks) kp
  obtain ⟨its, rv, lst, zl⟩ := I5.list sq
  have ln := rv.length
  refine tail_any (ops := [.ref a, .ref s4.heap.objs.size]) lst.isList.typeIs PySem.slot_list_getitem.lookup ?_ (by with_unfolding_all rfl)
  refine wpAny_getItem_list_slice (st := oc) lst.isList (Heap.IsSliceOf.new _ vl vu vc) il iu ic nz ?_ (by simp only [List.size_toArray]; omega)
  rw [pk_arr]
  have rp : Vals (pk xs ol ou oc) (pk its ol ou oc) := by
    unfold pk
    rw [ln]
    exact vals_pick rv _
  have new := I5.laid (t' := s4.toks) (a := (s4.heap.push { cls := .type "slice", data := .fields #[vl, vu, vc] }).objs.size) (o := .lst (pk xs ol ou oc)) (fun b u z => Heap.get?_push_of_some _ z) (Nat.le_refl _) ⟨zp zl, _, 0, rp, Heap.get?_push_size _ rfl⟩
  exact ⟨.ref _, _, new, rfl, q _ (I5.hok.fresh (Nat.le_refl _))⟩
def tStep (K : PySem.W.Frag) (j : Nat) (te : TE) : TE := fun σ H Q => te σ H fun x H1 => ∃ a xs, x = .ref a ∧ SqL K H1 a xs ∧ ∀ p, H1 p = none → Q (.ref p) (upd H1 p (.lst (ev2 (xs.drop j))))
theorem step_len (xs : List V) (j : Nat) (h : xs.length ≤ sizeLine) : (ev2 (xs.drop j)).length ≤ sizeLine := by
  rw [ev2_len, List.length_drop]
  omega
theorem pe_step0 {X : Cx} {e : Expr} {te : TE} {k : Nat} {p1 p3 pos : Pos} (he : PE X e te) : PE X (.Subscript e (.Slice none none (some (.Constant (.int 2) k p1)) p3) pos) (tStep X.K 0 te) := by
  constructor
  intro pins s σ H Q I h
  refine (pe_slL3 (pe_weak he) po_none po_none (po_some (pe_int (i := 2)))).run pins s σ H Q I ⟨_, h, ?_⟩
  rintro x H1 ⟨a, xs, ex, sq, q⟩
  have e0 : pk xs none none (some 2) = ev2 (xs.drop 0) := pk_step xs 0 (by decide)
  exact ⟨2, rfl, a, xs, ex, by decide, sq, by rw [e0]; exact step_len xs 0, by rw [e0]; exact q⟩
theorem pe_step1 {X : Cx} {e : Expr} {te : TE} {k k0 : Nat} {p0 p1 p3 pos : Pos} (he : PE X e te) : PE X (.Subscript e (.Slice (some (.Constant (.int 1) k0 p0)) none (some (.Constant (.int 2) k p1)) p3) pos) (tStep X.K 1 te) := by
  constructor
  intro pins s σ H Q I h
  refine (pe_slL3 (pe_weak he) (po_some (pe_int (i := 1))) po_none (po_some (pe_int (i := 2)))).run pins s σ H Q I ⟨_, h, ?_⟩
  rintro x H1 ⟨a, xs, ex, sq, q⟩
  have e0 : pk xs (some 1) none (some 2) = ev2 (xs.drop 1) := pk_step xs 1 (by decide)
  exact ⟨1, rfl, 2, rfl, a, xs, ex, by decide, sq, by rw [e0]; exact step_len xs 1, by rw [e0]; exact q⟩
section
variable {K : PySem.W.Frag} {te ta tb tc tl : TE} {tt : TT} {tA : TA} {ds : List SD} {ms : List MD} {R : RS} {t u : TS} {P : Po}
theorem RpA.ev2 {M : List Addr} {H : Hp} : ∀ {xs : List V} {es : List PyData}, RpA M H xs es → RpA M H (ev2 xs) (ev2 es)
  | _, _, .nil => .nil
  | _, _, .cons a .nil => .cons a .nil
  | _, _, .cons a (.cons _ r) => .cons a (RpA.ev2 r)
theorem e_step {j : Nat} (h : E K ta ds ms fun s ms1 => ∃ es, Sv ms1 (dd s) (.list es) ∧ R (.f (Hc.ev2 (es.drop j))) ms1) : E K (tStep K j ta) ds ms R := fun L M σ H hS hA Q q =>
  h L M σ H hS hA _ fun s v H1 ms1 w o ⟨es, sv, r⟩ => by
    have a1 := o.at
    obtain ⟨p, xs, rfl, hq, hr⟩ := sv.lst a1 o.sl
    exact ⟨p, xs, rfl, hq, fun l hl => q (.f (Hc.ev2 (es.drop j))) _ _ ms1 (w.trans (Wk.new hl)) (out_new a1 w hl (hr.drop j).ev2) r⟩
/-! ### a list or a tuple as a test -/
def tTru (K : PySem.W.Frag) (te : TE) : TT := fun σ H Q => te σ H fun x H' => ∃ k, TruV K x H' k ∧ Q k H'
theorem pt_tru {X : Cx} {a : Expr} (ha : PE X a ta) (he : ∀ whole, isTrue a X.env whole = (do let v ← whole; standAt a.pos; holding [v] (truthy v)) := by intro _; rfl) : PT X a (tTru X.K ta) := pt_truth ha he
theorem et_tru {RB : Bool → List MD → Prop} (h : E K te ds ms fun s ms1 => ∃ es : List PyData, (Sv ms1 (dd s) (.list es) ∨ Sv ms1 (dd s) (.tuple es)) ∧ RB (!es.isEmpty) ms1) : ET K (tTru K te) ds ms RB := fun L M σ H hS hA Q q =>
  h L M σ H hS hA _ fun s v H1 ms1 w o ⟨es, sv, r⟩ => by
    have a1 := o.at
    have em : ∀ {xs : List V}, RpA M H1 xs es → xs.isEmpty = es.isEmpty := fun {xs} h => by
      cases h <;> rfl
    rcases sv with sv | sv
    · obtain ⟨p, xs, rfl, hq, hr⟩ := sv.lst a1 o.sl
      exact ⟨_, .inl ⟨xs, hq, rfl⟩, by rw [em hr]; exact q _ H1 ms1 w a1 r⟩
    · obtain ⟨p, xs, rfl, hq, hr⟩ := sv.tup o.sl
      exact ⟨_, .inr (.inl ⟨xs, SqT.of hq, rfl⟩), by rw [em hr]; exact q _ H1 ms1 w a1 r⟩
/-- over zip(xs, ys) of two lists -/
theorem e_lcZL {g : TG} {js vs : List Nat} (hj : ∀ j ∈ js, j ∈ vs) (h : EA K tA ds ms fun as ms0 => ∃ (s1 s2 : SD) (es fs : List PyData), as = [s1, s2] ∧ Sw s1 es ∧ Sw s2 fs ∧ es.length ≤ 10000 ∧ ∃ Pv : Nat → List PyData → List MD → Prop, Pv 0 [] ms0 ∧
      (∀ i e f acc ms1, es[i]? = some e → fs[i]? = some f → Pv i acc ms1 → Lt K g js tt te vs ds (.d (.tuple [e, f])) ms1 acc (Pv (i + 1))) ∧ ∀ acc ms1, Pv (min es.length fs.length) acc ms1 → R (.f acc) ms1) :
    E K (tLc (RZ.iZipA K tA) g tt te vs) ds ms R := fun L M σ H hS hA Q q =>
  h L M σ H hS hA _ fun as us H1 ms0 w a1 o ⟨s1, s2, es, fs, ea, sw1, sw2, hz, Pv, h0, hs, hd⟩ => by
    subst ea
    obtain ⟨v1, t1, rfl, o1, v2, t2, rfl, o2, rfl⟩ := o
    obtain ⟨a, xs, rfl, rx, hx⟩ := sw1.is a1 o1
    obtain ⟨b, ys, rfl, ry, hy⟩ := sw2.is a1 o2
    refine ⟨a, b, xs, ys, rfl, .inl ⟨hx H1 (Wk.refl L H1), hy H1 (Wk.refl L H1), fun D hD => ?_⟩⟩
    have hDL := a1.freshL hD
    refine ⟨fun i m H' => m = min es.length fs.length - i ∧ i ≤ min es.length fs.length ∧ ∃ acc ms', Cs L M H1 D i acc ms' H' ∧ Pv i acc ms', ⟨_, rfl, Nat.zero_le _, [], ms0, .start a1 hD, h0⟩, ?_⟩
    rintro i m H' ⟨rfl, hi, acc, ms', c, p⟩
    have qx := hx H' c.w
    have qy := hy H' c.w
    by_cases hlt : i < min es.length fs.length
    · have l1 : i < xs.length := by rw [rx.length]; omega
      have l2 : i < ys.length := by rw [ry.length]; omega
      refine .inr ⟨⟨xs, ys, xs[i], ys[i], qx, qy, by simp [l1], by simp [l2]⟩, fun H2 => ∃ acc' ms2, Cs L M H1 D (i + 1) acc' ms2 H2 ∧ Pv (i + 1) acc' ms2, fun H2 ⟨acc', ms2, c2, p2⟩ => ⟨min es.length fs.length - (i + 1), by omega, rfl, hlt, acc', ms2, c2, p2⟩, fun v H2 y => ?_⟩
      obtain ⟨T, x, y, rfl, hT, rfl, fx, fy⟩ := y
      obtain ⟨e, e1, e2⟩ := rx.get' (fx xs qx)
      obtain ⟨f, f1, f2⟩ := ry.get' (fy ys qy)
      have c2 := c.new (o := .tup [x, y]) hT
      have tt2 : To M (M ++ [D]) H1 (upd H' T (.tup [x, y])) := to_new a1 hD c2.w
      have ho : SlOk K L (M ++ [D]) (upd H' T (.tup [x, y])) (.d (.tuple [e, f])) (.ref T) := Rp.tup (c.a.fresh hT) upd_same (.cons (Rp.to tt2 _ _ e2) (.cons (Rp.to tt2 _ _ f2) .nil))
      exact lc_turn2 (x := .d (.tuple [e, f])) (v := .ref T) (Nn := Pv) hj (by omega) (hS.mono hA w) a1 hD c2 ho (hs i e f acc ms' e1 f1 p)
    · have e : i = min es.length fs.length := by omega
      subst e
      refine .inl ⟨⟨xs, ys, qx, qy, by rw [rx.length, ry.length]; omega⟩, ?_⟩
      exact q (.f acc) _ H' ms' (w.trans c.w) ⟨D, rfl, none_back a1 w (a1.fresh hD) hD, a1.fresh hD, c.done a1.sub hDL, a1.sub⟩ (hd acc ms' p)
end
end Hc

namespace K04
open PySem PySem.Spec PyProof.Rows L2 Hc
def topS (i : Nat) : Stmt := PySem.Challenge.pw_heavycut_k04_lost_ties.main.body.getD i (.Pass ⟨0, 0, 0, 0⟩)
def blt : List Str := ["abs", "list", "len", "zip", "range", "tuple"]
abbrev s_common_divisor : Stmt := topS 1
theorem sc_common_divisor : FnScope ["one", "other"] ["one", "other"] (defScope s_common_divisor) := ⟨rfl, rfl, rfl, by decide +kernel, rfl, by decide +kernel, by decide +kernel⟩
abbrev s_as_fraction : Stmt := topS 2
theorem sc_as_fraction : FnScope ["top", "bottom", "divisor"] ["top", "bottom"] (defScope s_as_fraction) := ⟨rfl, rfl, rfl, by decide +kernel, rfl, by decide +kernel, by decide +kernel⟩
abbrev s_plus : Stmt := topS 3
theorem sc_plus : FnScope ["one", "other"] ["one", "other"] (defScope s_plus) := ⟨rfl, rfl, rfl, by decide +kernel, rfl, by decide +kernel, by decide +kernel⟩
abbrev s_added : Stmt := topS 4
theorem sc_added : FnScope ["terms", "sums", "alone", "one", "other"] ["terms"] (defScope s_added) := ⟨rfl, rfl, rfl, by decide +kernel, rfl, by decide +kernel, by decide +kernel⟩
abbrev s_size_of : Stmt := topS 6
theorem sc_size_of : FnScope ["web", "tie", "top", "bottom"] ["web", "tie"] (defScope s_size_of) := ⟨rfl, rfl, rfl, by decide +kernel, rfl, by decide +kernel, by decide +kernel⟩
abbrev s_is_gainful : Stmt := topS 7
theorem sc_is_gainful : FnScope ["web", "tie"] ["web", "tie"] (defScope s_is_gainful) := ⟨rfl, rfl, rfl, by decide +kernel, rfl, by decide +kernel, by decide +kernel⟩
abbrev s_top_of : Stmt := topS 8
theorem sc_top_of : FnScope ["web", "one", "other", "weight"] ["web"] (defScope s_top_of) := ⟨rfl, rfl, rfl, by decide +kernel, rfl, by decide +kernel, by decide +kernel⟩
abbrev s_is_cut : Stmt := topS 10
theorem sc_is_cut : FnScope ["web", "side", "tie", "one", "other", "weight"] ["web", "side", "tie"] (defScope s_is_cut) := ⟨rfl, rfl, rfl, by decide +kernel, rfl, by decide +kernel, by decide +kernel⟩
abbrev s_cut_ties : Stmt := topS 11
theorem sc_cut_ties : FnScope ["web", "side", "tie"] ["web", "side"] (defScope s_cut_ties) := ⟨rfl, rfl, rfl, by decide +kernel, rfl, by decide +kernel, by decide +kernel⟩
abbrev s_lost_ties : Stmt := topS 12
theorem sc_lost_ties : FnScope ["web", "side", "tie"] ["web", "side"] (defScope s_lost_ties) := ⟨rfl, rfl, rfl, by decide +kernel, rfl, by decide +kernel, by decide +kernel⟩
abbrev s_weight_of : Stmt := topS 13
theorem sc_weight_of : FnScope ["web", "side", "tie"] ["web", "side"] (defScope s_weight_of) := ⟨rfl, rfl, rfl, by decide +kernel, rfl, by decide +kernel, by decide +kernel⟩
abbrev s__law_cell_at : Stmt := topS 15
theorem sc__law_cell_at : FnScope ["_law_script", "_law_k"] ["_law_script", "_law_k"] (defScope s__law_cell_at) := ⟨rfl, rfl, rfl, by decide +kernel, rfl, by decide +kernel, by decide +kernel⟩
abbrev s__law_stream : Stmt := topS 16
theorem sc__law_stream : FnScope ["_law_cell", "_law_many", "_law_found", "_law_k", "_law_number", "_law_other"] ["_law_cell", "_law_many"] (defScope s__law_stream) := ⟨rfl, rfl, rfl, by decide +kernel, rfl, by decide +kernel, by decide +kernel⟩
abbrev s__law_next : Stmt := topS 17
theorem sc__law_next : FnScope ["_law_xs", "_law_many"] ["_law_xs", "_law_many"] (defScope s__law_next) := ⟨rfl, rfl, rfl, by decide +kernel, rfl, by decide +kernel, by decide +kernel⟩
abbrev s__law_divisor : Stmt := topS 18
theorem sc__law_divisor : FnScope ["_law_one", "_law_other"] ["_law_one", "_law_other"] (defScope s__law_divisor) := ⟨rfl, rfl, rfl, by decide +kernel, rfl, by decide +kernel, by decide +kernel⟩
abbrev s__law_fraction : Stmt := topS 19
theorem sc__law_fraction : FnScope ["_law_top", "_law_bottom", "_law_by"] ["_law_top", "_law_bottom"] (defScope s__law_fraction) := ⟨rfl, rfl, rfl, by decide +kernel, rfl, by decide +kernel, by decide +kernel⟩
abbrev s__law_weight : Stmt := topS 20
theorem sc__law_weight : FnScope ["_law_xs", "_law_manner", "_law_number", "_law_bottom"] ["_law_xs", "_law_manner"] (defScope s__law_weight) := ⟨rfl, rfl, rfl, by decide +kernel, rfl, by decide +kernel, by decide +kernel⟩
abbrev s__law_web : Stmt := topS 21
theorem sc__law_web : FnScope ["_law_xs", "_law_least", "_law_most", "_law_many", "_law_manner", "_law_thin", "_law_ties", "_law_one", "_law_other"] ["_law_xs", "_law_least", "_law_most"] (defScope s__law_web) := ⟨rfl, rfl, rfl, by decide +kernel, rfl, by decide +kernel, by decide +kernel⟩
abbrev s__law_sum : Stmt := topS 22
theorem sc__law_sum : FnScope ["_law_fractions", "_law_top", "_law_bottom", "_law_one", "_law_other"] ["_law_fractions"] (defScope s__law_sum) := ⟨rfl, rfl, rfl, by decide +kernel, rfl, by decide +kernel, by decide +kernel⟩
abbrev s__law_weight_of : Stmt := topS 23
theorem sc__law_weight_of : FnScope ["_law_web_here", "_law_side", "_law_one", "_law_other", "_law_weight_here"] ["_law_web_here", "_law_side"] (defScope s__law_weight_of) := ⟨rfl, rfl, rfl, by decide +kernel, rfl, by decide +kernel, by decide +kernel⟩
abbrev s__law_is_right : Stmt := topS 24
theorem sc__law_is_right : FnScope ["_law_web_here", "_law_side", "_law_cut", "_law_lost", "_law_number", "_law_one", "_law_other", "_law_weight_here", "_law_crosses", "_law_taken", "_law_left"] ["_law_web_here", "_law_side"] (defScope s__law_is_right) := ⟨rfl, rfl, rfl, by decide +kernel, rfl, by decide +kernel, by decide +kernel⟩
abbrev s_law : Stmt := topS 25
theorem sc_law : FnScope ["_law_script", "_law_xs", "_law_web_here", "_law_cell", "_law_ys", "_law_side", "_law_k"] ["_law_script"] (defScope s_law) := ⟨rfl, rfl, rfl, by decide +kernel, rfl, by decide +kernel, by decide +kernel⟩
section
variable {Pg : Program} {w : World} {K : PySem.W.Frag} {mg : Str → Option Value} {base : Heap}
def t_common_divisor (K : PySem.W.Frag) : TS := (tSeq (tPar 0 1 (tCons (tCB rAbs (tCons (tVar 0) tNil)) (tCons (tCB rAbs (tCons (tVar 1) tNil)) tNil)))
    (tSeq (tWhile (tTest (tOp (rNeD K) (tVar 1) (tC (.int 0)))) (tPar 0 1 (tCons (tVar 1) (tCons (tOp rModN (tVar 0) (tVar 1)) tNil))))
    (tRet (tVar 0))))
theorem dv_common_divisor {f : Addr} {cdv : Value} {A : Around} {outer : List Env} {s : Shared} {H : Hp} {E : XK} (hr : Room 0 (A.deeper (envOfC "common_divisor" (defScope s_common_divisor) s.heap.objs.size f cdv))) (B : ∀ x, x ∈ blt → mg x = none) :
    PSs (cxOf CX0 Pg w K mg base ["one", "other"] "common_divisor" (defScope s_common_divisor) f cdv A outer s H E).nox (defBody s_common_divisor) (t_common_divisor K) :=
  (pss_cons (ps_par (by rfl) sc_common_divisor.nd (i := 0) (j := 1) rfl rfl (by decide) rfl rfl (pa_cons (pe_callB call_abs (by rfl) (B "abs" (by decide)) (by decide +kernel) (pa_cons (pv 0) pa_nil)) (pa_cons (pe_callB call_abs (by rfl) (B "abs" (by decide)) (by decide +kernel) (pa_cons (pv 1) pa_nil)) pa_nil)) (by rfl))
      (pss_cons (ps_while PassesOwn.never (pt_cmpR (op_neD hr.units) (pv 1) pe_int (nomark _)) (pss_one (ps_par (by rfl) sc_common_divisor.nd (i := 0) (j := 1) rfl rfl (by decide) rfl rfl (pa_cons (pv 1) (pa_cons (pe_op op_modN (pv 0) (pv 1)) pa_nil)) (by rfl))))
      (pss_one (ps_ret (pv 0)))))
def t_as_fraction (K : PySem.W.Frag) (Φ_common_divisor : Ph) : TS := (tSeq (tAsg (tCall (SpD K Φ_common_divisor) [] E0 (tCons (tVar 0) (tCons (tVar 1) tNil))) (gName 2))
    (tSeq (tIfS (tTest (tOp rLtI (tVar 1) (tC (.int 0)))) (tAsg (tUn rNegI (tVar 2)) (gName 2)) tNext)
    (tRet (tTup (tCons (tOp rDivX (tVar 0) (tVar 2)) (tCons (tOp rDivX (tVar 1) (tVar 2)) tNil))))))
theorem dv_as_fraction {f : Addr} {cdv : Value} {A : Around} {outer : List Env} {s : Shared} {H : Hp} {E : XK} (hr : Room 1 (A.deeper (envOfC "as_fraction" (defScope s_as_fraction) s.heap.objs.size f cdv))) (B : ∀ x, x ∈ blt → mg x = none) {Φ_common_divisor : Ph} (g_common_divisor : Kn Pg w K mg base "common_divisor" 1 ["one", "other"] Φ_common_divisor) :
    PSs (cxOf CX0 Pg w K mg base ["top", "bottom", "divisor"] "as_fraction" (defScope s_as_fraction) f cdv A outer s H E).nox (defBody s_as_fraction) (t_as_fraction K Φ_common_divisor) :=
  (pss_cons (ps_set (i := 2) sc_as_fraction.nd rfl (by first | exact .inl rfl | exact .inr rfl) (pe_callD g_common_divisor (hr.mono (by decide)) (by rfl) (pa_cons (pv 0) (pa_cons (pv 1) pa_nil))))
      (pss_cons (ps_if (pt_cmpR op_lt (pv 1) pe_int (nomark _)) (pss_one (ps_set (i := 2) sc_as_fraction.nd rfl (by first | exact .inl rfl | exact .inr rfl) (pe_un un_neg (pv 2)))) pss_nil)
      (pss_one (ps_ret (pe_tup (pa_cons (pe_op op_fdivX (pv 0) (pv 2)) (pa_cons (pe_op op_fdivX (pv 1) (pv 2)) pa_nil)))))))
def t_plus (K : PySem.W.Frag) (Φ_as_fraction : Ph) : TS := (tRet (tCall (SpD K Φ_as_fraction) [] E0 (tCons (tOp rAddI (tOp rMulX (tOp (rIx K) (tVar 0) (tC (.int 0))) (tOp (rIx K) (tVar 1) (tC (.int 1)))) (tOp rMulX (tOp (rIx K) (tVar 1) (tC (.int 0))) (tOp (rIx K) (tVar 0) (tC (.int 1))))) (tCons (tOp rMulX (tOp (rIx K) (tVar 0) (tC (.int 1))) (tOp (rIx K) (tVar 1) (tC (.int 1)))) tNil))))
theorem dv_plus {f : Addr} {cdv : Value} {A : Around} {outer : List Env} {s : Shared} {H : Hp} {E : XK} (hr : Room 2 (A.deeper (envOfC "plus" (defScope s_plus) s.heap.objs.size f cdv))) (B : ∀ x, x ∈ blt → mg x = none) {Φ_as_fraction : Ph} (g_as_fraction : Kn Pg w K mg base "as_fraction" 2 ["top", "bottom"] Φ_as_fraction) :
    PSs (cxOf CX0 Pg w K mg base ["one", "other"] "plus" (defScope s_plus) f cdv A outer s H E).nox (defBody s_plus) (t_plus K Φ_as_fraction) :=
  (pss_one (ps_ret (pe_callD g_as_fraction (hr.mono (by decide)) (by rfl) (pa_cons (pe_op op_add (pe_op op_mulX (pe_ix ix_seq (pv 0) pe_int (fun _ _ => rfl)) (pe_ix ix_seq (pv 1) pe_int (fun _ _ => rfl))) (pe_op op_mulX (pe_ix ix_seq (pv 1) pe_int (fun _ _ => rfl)) (pe_ix ix_seq (pv 0) pe_int (fun _ _ => rfl)))) (pa_cons (pe_op op_mulX (pe_ix ix_seq (pv 0) pe_int (fun _ _ => rfl)) (pe_ix ix_seq (pv 1) pe_int (fun _ _ => rfl))) pa_nil)))))
def t_added (K : PySem.W.Frag) (Φ_plus : Ph) : TS := (tSeq (tAsg (tCB (rListQ K) (tCons (tVar 0) tNil)) (gName 1))
    (tSeq (tWhile (tTest (tOp rGtI (tCB (rLenQ K) (tCons (tVar 1) tNil)) (tC (.int 1)))) (tSeq (tAsg (tIf (tTest (tOp (rEqD K) (tOp rModN (tCB (rLenQ K) (tCons (tVar 1) tNil)) (tC (.int 2))) (tC (.int 1)))) (tSl (rSlL K) (tVar 1) (tPart (tUn rNegI (tC (.int 1)))) tNoPart) (tLst tNil)) (gName 2))
    (tAsg (tOp rCat (tLc (RZ.iZipA K (tCons (tStep K 0 (tVar 1)) (tCons (tStep K 1 (tVar 1)) tNil))) (gTup K 2 (gCons (gName 3) (gCons (gName 4) gNil))) tYes (tCall (SpD K Φ_plus) [] E0 (tCons (tVar 3) (tCons (tVar 4) tNil))) [3, 4]) (tVar 2)) (gName 1))))
    (tRet (tIf (tTru K (tVar 1)) (tOp (rIx K) (tVar 1) (tC (.int 0))) (tTup (tCons (tC (.int 0)) (tCons (tC (.int 1)) tNil)))))))
theorem dv_added {f : Addr} {cdv : Value} {A : Around} {outer : List Env} {s : Shared} {H : Hp} {E : XK} (hr : Room 3 (A.deeper (envOfC "added" (defScope s_added) s.heap.objs.size f cdv))) (B : ∀ x, x ∈ blt → mg x = none) {Φ_plus : Ph} (g_plus : Kn Pg w K mg base "plus" 3 ["one", "other"] Φ_plus) :
    PSs (cxOf CX0 Pg w K mg base ["terms", "sums", "alone", "one", "other"] "added" (defScope s_added) f cdv A outer s H E).nox (defBody s_added) (t_added K Φ_plus) :=
  (pss_cons (ps_set (i := 1) sc_added.nd rfl (by first | exact .inl rfl | exact .inr rfl) (pe_callTy call_list_of (by rfl) (B "list" (by decide)) (by decide +kernel) (pa_cons (pv 0) pa_nil)))
      (pss_cons (ps_while PassesOwn.never (pt_cmpR op_gt (pe_callB call_len_seq (by rfl) (B "len" (by decide)) (by decide +kernel) (pa_cons (pv 1) pa_nil)) pe_int (nomark _)) (pss_cons (ps_set (i := 2) sc_added.nd rfl (by first | exact .inl rfl | exact .inr rfl) (pe_ifExp (pt_cmpR (op_eqD hr.units) (pe_op op_modN (pe_callB call_len_seq (by rfl) (B "len" (by decide)) (by decide +kernel) (pa_cons (pv 1) pa_nil)) pe_int) pe_int (nomark _)) (pe_slice sl_list (pv 1) (po_some (pe_un un_neg pe_int)) po_none) (pe_lst pa_nil)))
      (pss_one (ps_set (i := 1) sc_added.nd rfl (by first | exact .inl rfl | exact .inr rfl) (pe_op op_cat (pe_lc (own := [("one", 3), ("other", 4)]) (g := (gTup K 2 (gCons (gName 3) (gCons (gName 4) gNil)))) (tt := tYes) rfl sc_added.nd (RZ.pi_zipA (by rfl) (B "zip" (by decide)) (pa_cons (pe_step0 (pv 1)) (pa_cons (pe_step1 (pv 1)) pa_nil))) (blkOk_by (own := [("one", 3), ("other", 4)]) (N := ["terms", "sums", "alone", "one", "other"]) (sc := defScope s_added) (by decide +kernel)) (fun _ _ _ _ _ => (pg_tup rfl (pgs_cons (pg_name (i := 3) sc_added.nd rfl (by first | exact .inl rfl | exact .inr rfl)) (pgs_cons (pg_name (i := 4) sc_added.nd rfl (by first | exact .inl rfl | exact .inr rfl)) pgs_nil)))) (fun _ _ _ _ _ => pts_nil) (fun _ _ _ _ _ => (pe_callD g_plus (hr.mono (by decide)) (by rfl) (pa_cons (pv 3) (pa_cons (pv 4) pa_nil))))) (pv 2))))))
      (pss_one (ps_ret (pe_ifExp (pt_tru (pv 1)) (pe_ix ix_seq (pv 1) pe_int (fun _ _ => rfl)) (pe_tup (pa_cons pe_int (pa_cons pe_int pa_nil))))))))
def t_size_of (K : PySem.W.Frag) : TS := (tSeq (tAsg (tOp (rIx K) (tOp (rIx K) (tOp (rIx K) (tVar 0) (tC (.int 1))) (tVar 1)) (tC (.int 2))) (gTup K 2 (gCons (gName 2) (gCons (gName 3) gNil))))
    (tRet (tTup (tCons (tCB rAbs (tCons (tVar 2) tNil)) (tCons (tVar 3) tNil)))))
theorem dv_size_of {f : Addr} {cdv : Value} {A : Around} {outer : List Env} {s : Shared} {H : Hp} {E : XK} (hr : Room 0 (A.deeper (envOfC "size_of" (defScope s_size_of) s.heap.objs.size f cdv))) (B : ∀ x, x ∈ blt → mg x = none) :
    PSs (cxOf CX0 Pg w K mg base ["web", "tie", "top", "bottom"] "size_of" (defScope s_size_of) f cdv A outer s H E).nox (defBody s_size_of) (t_size_of K) :=
  (pss_cons (ps_asg (pe_ix ix_seq (pe_ix ix_seq (pe_ix ix_seq (pv 0) pe_int (fun _ _ => rfl)) (pv 1) (fun _ _ => rfl)) pe_int (fun _ _ => rfl)) (pg_tup rfl (pgs_cons (pg_name (i := 2) sc_size_of.nd rfl (by first | exact .inl rfl | exact .inr rfl)) (pgs_cons (pg_name (i := 3) sc_size_of.nd rfl (by first | exact .inl rfl | exact .inr rfl)) pgs_nil))))
      (pss_one (ps_ret (pe_tup (pa_cons (pe_callB call_abs (by rfl) (B "abs" (by decide)) (by decide +kernel) (pa_cons (pv 2) pa_nil)) (pa_cons (pv 3) pa_nil))))))
def t_is_gainful (K : PySem.W.Frag) : TS := (tRet (tOp rGtI (tOp (rIx K) (tOp (rIx K) (tOp (rIx K) (tOp (rIx K) (tVar 0) (tC (.int 1))) (tVar 1)) (tC (.int 2))) (tC (.int 0))) (tC (.int 0))))
theorem dv_is_gainful {f : Addr} {cdv : Value} {A : Around} {outer : List Env} {s : Shared} {H : Hp} {E : XK} (hr : Room 0 (A.deeper (envOfC "is_gainful" (defScope s_is_gainful) s.heap.objs.size f cdv))) (B : ∀ x, x ∈ blt → mg x = none) :
    PSs (cxOf CX0 Pg w K mg base ["web", "tie"] "is_gainful" (defScope s_is_gainful) f cdv A outer s H E).nox (defBody s_is_gainful) (t_is_gainful K) :=
  (pss_one (ps_ret (pe_cmpR op_gt (pe_ix ix_seq (pe_ix ix_seq (pe_ix ix_seq (pe_ix ix_seq (pv 0) pe_int (fun _ _ => rfl)) (pv 1) (fun _ _ => rfl)) pe_int (fun _ _ => rfl)) pe_int (fun _ _ => rfl)) pe_int (nomark _))))
def t_top_of (K : PySem.W.Frag) (Φ_added : Ph) : TS := (tRet (tCall (SpD K Φ_added) [] E0 (tCons (tLc (iTup K (tOp (rIx K) (tVar 0) (tC (.int 1)))) (gTup K 3 (gCons (gName 1) (gCons (gName 2) (gCons (gName 3) gNil)))) (tTest (tOp rGtI (tOp (rIx K) (tVar 3) (tC (.int 0))) (tC (.int 0)))) (tVar 3) [1, 2, 3]) tNil)))
theorem dv_top_of {f : Addr} {cdv : Value} {A : Around} {outer : List Env} {s : Shared} {H : Hp} {E : XK} (hr : Room 4 (A.deeper (envOfC "top_of" (defScope s_top_of) s.heap.objs.size f cdv))) (B : ∀ x, x ∈ blt → mg x = none) {Φ_added : Ph} (g_added : Kn Pg w K mg base "added" 4 ["terms"] Φ_added) :
    PSs (cxOf CX0 Pg w K mg base ["web", "one", "other", "weight"] "top_of" (defScope s_top_of) f cdv A outer s H E).nox (defBody s_top_of) (t_top_of K Φ_added) :=
  (pss_one (ps_ret (pe_callD g_added (hr.mono (by decide)) (by rfl) (pa_cons (pe_lc (own := [("one", 1), ("other", 2), ("weight", 3)]) (g := (gTup K 3 (gCons (gName 1) (gCons (gName 2) (gCons (gName 3) gNil))))) (tt := (tTest (tOp rGtI (tOp (rIx K) (tVar 3) (tC (.int 0))) (tC (.int 0))))) rfl sc_top_of.nd (pi_tup (pe_ix ix_seq (pv 0) pe_int (fun _ _ => rfl))) (blkOk_by (own := [("one", 1), ("other", 2), ("weight", 3)]) (N := ["web", "one", "other", "weight"]) (sc := defScope s_top_of) (by decide +kernel)) (fun _ _ _ _ _ => (pg_tup rfl (pgs_cons (pg_name (i := 1) sc_top_of.nd rfl (by first | exact .inl rfl | exact .inr rfl)) (pgs_cons (pg_name (i := 2) sc_top_of.nd rfl (by first | exact .inl rfl | exact .inr rfl)) (pgs_cons (pg_name (i := 3) sc_top_of.nd rfl (by first | exact .inl rfl | exact .inr rfl)) pgs_nil))))) (fun _ _ _ _ _ => (pts_one (pt_cmpR op_gt (pe_ix ix_seq (pv 3) pe_int (fun _ _ => rfl)) pe_int (nomark _)))) (fun _ _ _ _ _ => (pv 3))) pa_nil))))
def t_is_cut (K : PySem.W.Frag) : TS := (tSeq (tAsg (tOp (rIx K) (tOp (rIx K) (tVar 0) (tC (.int 1))) (tVar 2)) (gTup K 3 (gCons (gName 3) (gCons (gName 4) (gCons (gName 5) gNil)))))
    (tRet (tOp (rNeD K) (tOp (rIx K) (tVar 1) (tVar 3)) (tOp (rIx K) (tVar 1) (tVar 4)))))
theorem dv_is_cut {f : Addr} {cdv : Value} {A : Around} {outer : List Env} {s : Shared} {H : Hp} {E : XK} (hr : Room 0 (A.deeper (envOfC "is_cut" (defScope s_is_cut) s.heap.objs.size f cdv))) (B : ∀ x, x ∈ blt → mg x = none) :
    PSs (cxOf CX0 Pg w K mg base ["web", "side", "tie", "one", "other", "weight"] "is_cut" (defScope s_is_cut) f cdv A outer s H E).nox (defBody s_is_cut) (t_is_cut K) :=
  (pss_cons (ps_asg (pe_ix ix_seq (pe_ix ix_seq (pv 0) pe_int (fun _ _ => rfl)) (pv 2) (fun _ _ => rfl)) (pg_tup rfl (pgs_cons (pg_name (i := 3) sc_is_cut.nd rfl (by first | exact .inl rfl | exact .inr rfl)) (pgs_cons (pg_name (i := 4) sc_is_cut.nd rfl (by first | exact .inl rfl | exact .inr rfl)) (pgs_cons (pg_name (i := 5) sc_is_cut.nd rfl (by first | exact .inl rfl | exact .inr rfl)) pgs_nil)))))
      (pss_one (ps_ret (pe_cmpR (op_neD hr.units) (pe_ix ix_seq (pv 1) (pv 3) (fun _ _ => rfl)) (pe_ix ix_seq (pv 1) (pv 4) (fun _ _ => rfl)) (nomark _)))))
def t_cut_ties (K : PySem.W.Frag) (Φ_is_cut : Ph) : TS := (tRet (tCB (rTupQ K) (tCons (tLc (iRng1 (tCons (tCB (rLenQ K) (tCons (tOp (rIx K) (tVar 0) (tC (.int 1))) tNil)) tNil)) (gName 2) (L2.tB (tCall (SpD K Φ_is_cut) [] E0 (tCons (tVar 0) (tCons (tVar 1) (tCons (tVar 2) tNil))))) (tVar 2) [2]) tNil)))
theorem dv_cut_ties {f : Addr} {cdv : Value} {A : Around} {outer : List Env} {s : Shared} {H : Hp} {E : XK} (hr : Room 1 (A.deeper (envOfC "cut_ties" (defScope s_cut_ties) s.heap.objs.size f cdv))) (B : ∀ x, x ∈ blt → mg x = none) {Φ_is_cut : Ph} (g_is_cut : Kn Pg w K mg base "is_cut" 1 ["web", "side", "tie"] Φ_is_cut) :
    PSs (cxOf CX0 Pg w K mg base ["web", "side", "tie"] "cut_ties" (defScope s_cut_ties) f cdv A outer s H E).nox (defBody s_cut_ties) (t_cut_ties K Φ_is_cut) :=
  (pss_one (ps_ret (pe_callTy call_tuple_of (by rfl) (B "tuple" (by decide)) (by decide +kernel) (pa_cons (pe_lc (own := [("tie", 2)]) (g := (gName 2)) (tt := (L2.tB (tCall (SpD K Φ_is_cut) [] E0 (tCons (tVar 0) (tCons (tVar 1) (tCons (tVar 2) tNil)))))) rfl sc_cut_ties.nd (pi_range1 (by rfl) (B "range" (by decide)) (pa_cons (pe_callB call_len_seq (by rfl) (B "len" (by decide)) (by decide +kernel) (pa_cons (pe_ix ix_seq (pv 0) pe_int (fun _ _ => rfl)) pa_nil)) pa_nil)) (blkOk_by (own := [("tie", 2)]) (N := ["web", "side", "tie"]) (sc := defScope s_cut_ties) (by decide +kernel)) (fun _ _ _ _ _ => (pg_name (i := 2) sc_cut_ties.nd rfl (by first | exact .inl rfl | exact .inr rfl))) (fun _ _ _ _ _ => (pts_one (pt_val (pe_callD g_is_cut (hr.mono (by decide)) (by rfl) (pa_cons (pv 0) (pa_cons (pv 1) (pa_cons (pv 2) pa_nil))))))) (fun _ _ _ _ _ => (pv 2))) pa_nil))))
def t_lost_ties (K : PySem.W.Frag) (Φ_is_cut : Ph) (Φ_is_gainful : Ph) : TS := (tRet (tCB (rTupQ K) (tCons (tLc (iRng1 (tCons (tCB (rLenQ K) (tCons (tOp (rIx K) (tVar 0) (tC (.int 1))) tNil)) tNil)) (gName 2) (tTest (tOp (rNeD K) (tCall (SpD K Φ_is_cut) [] E0 (tCons (tVar 0) (tCons (tVar 1) (tCons (tVar 2) tNil)))) (tCall (SpD K Φ_is_gainful) [] E0 (tCons (tVar 0) (tCons (tVar 2) tNil))))) (tVar 2) [2]) tNil)))
theorem dv_lost_ties {f : Addr} {cdv : Value} {A : Around} {outer : List Env} {s : Shared} {H : Hp} {E : XK} (hr : Room 1 (A.deeper (envOfC "lost_ties" (defScope s_lost_ties) s.heap.objs.size f cdv))) (B : ∀ x, x ∈ blt → mg x = none) {Φ_is_cut : Ph} {Φ_is_gainful : Ph} (g_is_cut : Kn Pg w K mg base "is_cut" 1 ["web", "side", "tie"] Φ_is_cut) (g_is_gainful : Kn Pg w K mg base "is_gainful" 1 ["web", "tie"] Φ_is_gainful) :
    PSs (cxOf CX0 Pg w K mg base ["web", "side", "tie"] "lost_ties" (defScope s_lost_ties) f cdv A outer s H E).nox (defBody s_lost_ties) (t_lost_ties K Φ_is_cut Φ_is_gainful) :=
  (pss_one (ps_ret (pe_callTy call_tuple_of (by rfl) (B "tuple" (by decide)) (by decide +kernel) (pa_cons (pe_lc (own := [("tie", 2)]) (g := (gName 2)) (tt := (tTest (tOp (rNeD K) (tCall (SpD K Φ_is_cut) [] E0 (tCons (tVar 0) (tCons (tVar 1) (tCons (tVar 2) tNil)))) (tCall (SpD K Φ_is_gainful) [] E0 (tCons (tVar 0) (tCons (tVar 2) tNil)))))) rfl sc_lost_ties.nd (pi_range1 (by rfl) (B "range" (by decide)) (pa_cons (pe_callB call_len_seq (by rfl) (B "len" (by decide)) (by decide +kernel) (pa_cons (pe_ix ix_seq (pv 0) pe_int (fun _ _ => rfl)) pa_nil)) pa_nil)) (blkOk_by (own := [("tie", 2)]) (N := ["web", "side", "tie"]) (sc := defScope s_lost_ties) (by decide +kernel)) (fun _ _ _ _ _ => (pg_name (i := 2) sc_lost_ties.nd rfl (by first | exact .inl rfl | exact .inr rfl))) (fun _ _ _ _ _ => (pts_one (pt_cmpR (op_neD hr.units) (pe_callD g_is_cut (hr.mono (by decide)) (by rfl) (pa_cons (pv 0) (pa_cons (pv 1) (pa_cons (pv 2) pa_nil)))) (pe_callD g_is_gainful (hr.mono (by decide)) (by rfl) (pa_cons (pv 0) (pa_cons (pv 2) pa_nil))) (nomark _)))) (fun _ _ _ _ _ => (pv 2))) pa_nil))))
def t_weight_of (K : PySem.W.Frag) (Φ_added : Ph) (Φ_cut_ties : Ph) : TS := (tRet (tCall (SpD K Φ_added) [] E0 (tCons (tLc (iTup K (tCall (SpD K Φ_cut_ties) [] E0 (tCons (tVar 0) (tCons (tVar 1) tNil)))) (gName 2) tYes (tOp (rIx K) (tOp (rIx K) (tOp (rIx K) (tVar 0) (tC (.int 1))) (tVar 2)) (tC (.int 2))) [2]) tNil)))
theorem dv_weight_of {f : Addr} {cdv : Value} {A : Around} {outer : List Env} {s : Shared} {H : Hp} {E : XK} (hr : Room 4 (A.deeper (envOfC "weight_of" (defScope s_weight_of) s.heap.objs.size f cdv))) (B : ∀ x, x ∈ blt → mg x = none) {Φ_added : Ph} {Φ_cut_ties : Ph} (g_added : Kn Pg w K mg base "added" 4 ["terms"] Φ_added) (g_cut_ties : Kn Pg w K mg base "cut_ties" 2 ["web", "side"] Φ_cut_ties) :
    PSs (cxOf CX0 Pg w K mg base ["web", "side", "tie"] "weight_of" (defScope s_weight_of) f cdv A outer s H E).nox (defBody s_weight_of) (t_weight_of K Φ_added Φ_cut_ties) :=
  (pss_one (ps_ret (pe_callD g_added (hr.mono (by decide)) (by rfl) (pa_cons (pe_lc (own := [("tie", 2)]) (g := (gName 2)) (tt := tYes) rfl sc_weight_of.nd (pi_tup (pe_callD g_cut_ties (hr.mono (by decide)) (by rfl) (pa_cons (pv 0) (pa_cons (pv 1) pa_nil)))) (blkOk_by (own := [("tie", 2)]) (N := ["web", "side", "tie"]) (sc := defScope s_weight_of) (by decide +kernel)) (fun _ _ _ _ _ => (pg_name (i := 2) sc_weight_of.nd rfl (by first | exact .inl rfl | exact .inr rfl))) (fun _ _ _ _ _ => pts_nil) (fun _ _ _ _ _ => (pe_ix ix_seq (pe_ix ix_seq (pe_ix ix_seq (pv 0) pe_int (fun _ _ => rfl)) (pv 2) (fun _ _ => rfl)) pe_int (fun _ _ => rfl)))) pa_nil))))
def t__law_cell_at (K : PySem.W.Frag) : TS := (tSeq (tIfS (tTest (tOp rLtI (tVar 1) (tCB (rLenQ K) (tCons (tVar 0) tNil)))) (tRet (tOp (rIx K) (tVar 0) (tVar 1))) tNext)
    (tRet (tC (.int 0))))
theorem dv__law_cell_at {f : Addr} {cdv : Value} {A : Around} {outer : List Env} {s : Shared} {H : Hp} {E : XK} (hr : Room 0 (A.deeper (envOfC "_law_cell_at" (defScope s__law_cell_at) s.heap.objs.size f cdv))) (B : ∀ x, x ∈ blt → mg x = none) :
    PSs (cxOf CX0 Pg w K mg base ["_law_script", "_law_k"] "_law_cell_at" (defScope s__law_cell_at) f cdv A outer s H E).nox (defBody s__law_cell_at) (t__law_cell_at K) :=
  (pss_cons (ps_if (pt_cmpR op_lt (pv 1) (pe_callB call_len_seq (by rfl) (B "len" (by decide)) (by decide +kernel) (pa_cons (pv 0) pa_nil)) (nomark _)) (pss_one (ps_ret (pe_ix ix_seq (pv 0) (pv 1) (fun _ _ => rfl)))) pss_nil)
      (pss_one (ps_ret pe_int)))
def t__law_stream (K : PySem.W.Frag) : TS := (tSeq (tAsg (tLst tNil) (gName 2))
    (tSeq (tIfS (tTest (tOp rGeI (tVar 0) (tOp rPowI (tC (.int 10)) (tC (.int 18))))) (tSeq (tFor (iRng1 (tCons (tVar 1) tNil)) (gName 3) (tSeq (tDrop (tBM K "list" rAppend (tVar 2) (tCons (tOp rModN (tVar 0) (tC (.int 1000))) tNil)))
    (tAsg (tOp rDivX (tVar 0) (tC (.int 1000))) (gName 0))))
    (tRet (tRevL K (tVar 2)))) tNext)
    (tSeq (tAsg (tOp rAddI (tOp rModN (tVar 0) (tC (.int 2147483647))) (tC (.int 48271))) (gName 4))
    (tSeq (tAsg (tOp rAddI (tOp rModN (tVar 0) (tC (.int 2147483629))) (tC (.int 69621))) (gName 5))
    (tSeq (tFor (iRng1 (tCons (tVar 1) tNil)) (gName 3) (tSeq (tAsg (tOp rModN (tOp rAddI (tOp rAddI (tOp rMulI (tVar 4) (tC (.int 39373))) (tOp rMulX (tVar 3) (tVar 3))) (tC (.int 1))) (tC (.int 2147483647))) (gName 4))
    (tSeq (tAsg (tOp rModN (tOp rAddI (tOp rMulI (tVar 5) (tC (.int 48271))) (tOp rModN (tVar 4) (tC (.int 7919)))) (tC (.int 2147483629))) (gName 5))
    (tDrop (tBM K "list" rAppend (tVar 2) (tCons (tOp rDivX (tOp rAddI (tVar 4) (tOp rMulI (tC (.int 3)) (tVar 5))) (tC (.int 5))) tNil))))))
    (tRet (tVar 2)))))))
theorem dv__law_stream {f : Addr} {cdv : Value} {A : Around} {outer : List Env} {s : Shared} {H : Hp} {E : XK} (hr : Room 0 (A.deeper (envOfC "_law_stream" (defScope s__law_stream) s.heap.objs.size f cdv))) (B : ∀ x, x ∈ blt → mg x = none) :
    PSs (cxOf CX0 Pg w K mg base ["_law_cell", "_law_many", "_law_found", "_law_k", "_law_number", "_law_other"] "_law_stream" (defScope s__law_stream) f cdv A outer s H E).nox (defBody s__law_stream) (t__law_stream K) :=
  (pss_cons (ps_set (i := 2) sc__law_stream.nd rfl (by first | exact .inl rfl | exact .inr rfl) (pe_lst pa_nil))
      (pss_cons (ps_if (pt_cmpR op_ge (pv 0) (pe_op op_pow pe_int pe_int) (nomark _)) (pss_cons (ps_for PassesOwn.never rfl (pi_range1 (by rfl) (B "range" (by decide)) (pa_cons (pv 1) pa_nil)) (pg_name (i := 3) sc__law_stream.nd rfl (by first | exact .inl rfl | exact .inr rfl)) (pss_cons (ps_expr (pe_bm PySem.F.plainAttrs_list PySem.F.slot_list_append PySem.F.type_list_append mt_append (pv 2) (pa_cons (pe_op op_modN (pv 0) pe_int) pa_nil)))
      (pss_one (ps_set (i := 0) sc__law_stream.nd rfl (by first | exact .inl rfl | exact .inr rfl) (pe_op op_fdivX (pv 0) pe_int)))))
      (pss_one (ps_ret (pe_revL (pv 2))))) pss_nil)
      (pss_cons (ps_set (i := 4) sc__law_stream.nd rfl (by first | exact .inl rfl | exact .inr rfl) (pe_op op_add (pe_op op_modN (pv 0) pe_int) pe_int))
      (pss_cons (ps_set (i := 5) sc__law_stream.nd rfl (by first | exact .inl rfl | exact .inr rfl) (pe_op op_add (pe_op op_modN (pv 0) pe_int) pe_int))
      (pss_cons (ps_for PassesOwn.never rfl (pi_range1 (by rfl) (B "range" (by decide)) (pa_cons (pv 1) pa_nil)) (pg_name (i := 3) sc__law_stream.nd rfl (by first | exact .inl rfl | exact .inr rfl)) (pss_cons (ps_set (i := 4) sc__law_stream.nd rfl (by first | exact .inl rfl | exact .inr rfl) (pe_op op_modN (pe_op op_add (pe_op op_add (pe_op op_mul (pv 4) pe_int) (pe_op op_mulX (pv 3) (pv 3))) pe_int) pe_int))
      (pss_cons (ps_set (i := 5) sc__law_stream.nd rfl (by first | exact .inl rfl | exact .inr rfl) (pe_op op_modN (pe_op op_add (pe_op op_mul (pv 5) pe_int) (pe_op op_modN (pv 4) pe_int)) pe_int))
      (pss_one (ps_expr (pe_bm PySem.F.plainAttrs_list PySem.F.slot_list_append PySem.F.type_list_append mt_append (pv 2) (pa_cons (pe_op op_fdivX (pe_op op_add (pv 4) (pe_op op_mul pe_int (pv 5))) pe_int) pa_nil)))))))
      (pss_one (ps_ret (pv 2))))))))
def t__law_next (K : PySem.W.Frag) : TS := (tSeq (tIfS (tTest (tOp (rEqD K) (tVar 0) (tLst tNil))) (tRet (tC (.int 0))) tNext)
    (tRet (tOp rModN (tBM0 K "list" rPop (tVar 0)) (tVar 1))))
theorem dv__law_next {f : Addr} {cdv : Value} {A : Around} {outer : List Env} {s : Shared} {H : Hp} {E : XK} (hr : Room 0 (A.deeper (envOfC "_law_next" (defScope s__law_next) s.heap.objs.size f cdv))) (B : ∀ x, x ∈ blt → mg x = none) :
    PSs (cxOf CX0 Pg w K mg base ["_law_xs", "_law_many"] "_law_next" (defScope s__law_next) f cdv A outer s H E).nox (defBody s__law_next) (t__law_next K) :=
  (pss_cons (ps_if (pt_cmpR (op_eqD hr.units) (pv 0) (pe_lst pa_nil) (nomark _)) (pss_one (ps_ret pe_int)) pss_nil)
      (pss_one (ps_ret (pe_op op_modN (pe_bm0 PySem.F.plainAttrs_list PySem.F.slot_list_pop PySem.F.type_list_pop mt_pop (pv 0)) (pv 1)))))
def t__law_divisor (K : PySem.W.Frag) : TS := (tSeq (tPar 0 1 (tCons (tCB rAbs (tCons (tVar 0) tNil)) (tCons (tCB rAbs (tCons (tVar 1) tNil)) tNil)))
    (tSeq (tWhile (tTest (tOp rGtI (tVar 1) (tC (.int 0)))) (tPar 0 1 (tCons (tVar 1) (tCons (tOp rModN (tVar 0) (tVar 1)) tNil))))
    (tRet (tVar 0))))
theorem dv__law_divisor {f : Addr} {cdv : Value} {A : Around} {outer : List Env} {s : Shared} {H : Hp} {E : XK} (hr : Room 0 (A.deeper (envOfC "_law_divisor" (defScope s__law_divisor) s.heap.objs.size f cdv))) (B : ∀ x, x ∈ blt → mg x = none) :
    PSs (cxOf CX0 Pg w K mg base ["_law_one", "_law_other"] "_law_divisor" (defScope s__law_divisor) f cdv A outer s H E).nox (defBody s__law_divisor) (t__law_divisor K) :=
  (pss_cons (ps_par (by rfl) sc__law_divisor.nd (i := 0) (j := 1) rfl rfl (by decide) rfl rfl (pa_cons (pe_callB call_abs (by rfl) (B "abs" (by decide)) (by decide +kernel) (pa_cons (pv 0) pa_nil)) (pa_cons (pe_callB call_abs (by rfl) (B "abs" (by decide)) (by decide +kernel) (pa_cons (pv 1) pa_nil)) pa_nil)) (by rfl))
      (pss_cons (ps_while PassesOwn.never (pt_cmpR op_gt (pv 1) pe_int (nomark _)) (pss_one (ps_par (by rfl) sc__law_divisor.nd (i := 0) (j := 1) rfl rfl (by decide) rfl rfl (pa_cons (pv 1) (pa_cons (pe_op op_modN (pv 0) (pv 1)) pa_nil)) (by rfl))))
      (pss_one (ps_ret (pv 0)))))
def t__law_fraction (K : PySem.W.Frag) (Φ__law_divisor : Ph) : TS := (tSeq (tAsg (tCall (SpD K Φ__law_divisor) [] E0 (tCons (tVar 0) (tCons (tVar 1) tNil))) (gName 2))
    (tSeq (tIfS (tTest (tOp rLtI (tVar 1) (tC (.int 0)))) (tAsg (tOp rSubI (tC (.int 0)) (tVar 2)) (gName 2)) tNext)
    (tRet (tTup (tCons (tOp rDivX (tVar 0) (tVar 2)) (tCons (tOp rDivX (tVar 1) (tVar 2)) tNil))))))
theorem dv__law_fraction {f : Addr} {cdv : Value} {A : Around} {outer : List Env} {s : Shared} {H : Hp} {E : XK} (hr : Room 1 (A.deeper (envOfC "_law_fraction" (defScope s__law_fraction) s.heap.objs.size f cdv))) (B : ∀ x, x ∈ blt → mg x = none) {Φ__law_divisor : Ph} (g__law_divisor : Kn Pg w K mg base "_law_divisor" 1 ["_law_one", "_law_other"] Φ__law_divisor) :
    PSs (cxOf CX0 Pg w K mg base ["_law_top", "_law_bottom", "_law_by"] "_law_fraction" (defScope s__law_fraction) f cdv A outer s H E).nox (defBody s__law_fraction) (t__law_fraction K Φ__law_divisor) :=
  (pss_cons (ps_set (i := 2) sc__law_fraction.nd rfl (by first | exact .inl rfl | exact .inr rfl) (pe_callD g__law_divisor (hr.mono (by decide)) (by rfl) (pa_cons (pv 0) (pa_cons (pv 1) pa_nil))))
      (pss_cons (ps_if (pt_cmpR op_lt (pv 1) pe_int (nomark _)) (pss_one (ps_set (i := 2) sc__law_fraction.nd rfl (by first | exact .inl rfl | exact .inr rfl) (pe_op op_sub pe_int (pv 2)))) pss_nil)
      (pss_one (ps_ret (pe_tup (pa_cons (pe_op op_fdivX (pv 0) (pv 2)) (pa_cons (pe_op op_fdivX (pv 1) (pv 2)) pa_nil)))))))
def t__law_weight (K : PySem.W.Frag) (Φ__law_next : Ph) (Φ__law_fraction : Ph) : TS := (tSeq (tAsg (tOp rSubI (tCall (SpD K Φ__law_next) [] E0 (tCons (tVar 0) (tCons (tC (.int 9)) tNil))) (tC (.int 4))) (gName 2))
    (tSeq (tIfS (tTest (tOp (rEqD K) (tVar 1) (tC (.int 0)))) (tAsg (tOp rAddI (tCB rAbs (tCons (tVar 2) tNil)) (tC (.int 1))) (gName 2)) tNext)
    (tSeq (tIfS (tTest (tOp (rEqD K) (tVar 1) (tC (.int 1)))) (tAsg (tOp rSubI (tC (.int 0)) (tCB rAbs (tCons (tVar 2) tNil))) (gName 2)) tNext)
    (tSeq (tIfS (tTest (tOp (rEqD K) (tVar 1) (tC (.int 2)))) (tAsg (tC (.int 2)) (gName 2)) tNext)
    (tSeq (tAsg (tOp (rIx K) (tLst (tCons (tC (.int 1)) (tCons (tC (.int 1)) (tCons (tC (.int 1)) (tCons (tC (.int 2)) (tCons (tC (.int 3)) (tCons (tC (.int 7)) (tCons (tC (.int 1000)) tNil)))))))) (tCall (SpD K Φ__law_next) [] E0 (tCons (tVar 0) (tCons (tC (.int 7)) tNil)))) (gName 3))
    (tSeq (tIfS (tAnd (tTest (tOp (rEqD K) (tCall (SpD K Φ__law_next) [] E0 (tCons (tVar 0) (tCons (tC (.int 11)) tNil))) (tC (.int 0)))) (tTest (tOp rGtI (tVar 1) (tC (.int 2))))) (tRet (tCall (SpD K Φ__law_fraction) [] E0 (tCons (tOp rAddI (tOp rMulI (tVar 2) (tC (.int 249999999))) (tC (.int 1))) (tCons (tVar 3) tNil)))) tNext)
    (tRet (tCall (SpD K Φ__law_fraction) [] E0 (tCons (tVar 2) (tCons (tVar 3) tNil))))))))))
theorem dv__law_weight {f : Addr} {cdv : Value} {A : Around} {outer : List Env} {s : Shared} {H : Hp} {E : XK} (hr : Room 2 (A.deeper (envOfC "_law_weight" (defScope s__law_weight) s.heap.objs.size f cdv))) (B : ∀ x, x ∈ blt → mg x = none) {Φ__law_next : Ph} {Φ__law_fraction : Ph} (g__law_next : Kn Pg w K mg base "_law_next" 1 ["_law_xs", "_law_many"] Φ__law_next) (g__law_fraction : Kn Pg w K mg base "_law_fraction" 2 ["_law_top", "_law_bottom"] Φ__law_fraction) :
    PSs (cxOf CX0 Pg w K mg base ["_law_xs", "_law_manner", "_law_number", "_law_bottom"] "_law_weight" (defScope s__law_weight) f cdv A outer s H E).nox (defBody s__law_weight) (t__law_weight K Φ__law_next Φ__law_fraction) :=
  (pss_cons (ps_set (i := 2) sc__law_weight.nd rfl (by first | exact .inl rfl | exact .inr rfl) (pe_op op_sub (pe_callD g__law_next (hr.mono (by decide)) (by rfl) (pa_cons (pv 0) (pa_cons pe_int pa_nil))) pe_int))
      (pss_cons (ps_if (pt_cmpR (op_eqD hr.units) (pv 1) pe_int (nomark _)) (pss_one (ps_set (i := 2) sc__law_weight.nd rfl (by first | exact .inl rfl | exact .inr rfl) (pe_op op_add (pe_callB call_abs (by rfl) (B "abs" (by decide)) (by decide +kernel) (pa_cons (pv 2) pa_nil)) pe_int))) pss_nil)
      (pss_cons (ps_if (pt_cmpR (op_eqD hr.units) (pv 1) pe_int (nomark _)) (pss_one (ps_set (i := 2) sc__law_weight.nd rfl (by first | exact .inl rfl | exact .inr rfl) (pe_op op_sub pe_int (pe_callB call_abs (by rfl) (B "abs" (by decide)) (by decide +kernel) (pa_cons (pv 2) pa_nil))))) pss_nil)
      (pss_cons (ps_if (pt_cmpR (op_eqD hr.units) (pv 1) pe_int (nomark _)) (pss_one (ps_set (i := 2) sc__law_weight.nd rfl (by first | exact .inl rfl | exact .inr rfl) pe_int)) pss_nil)
      (pss_cons (ps_set (i := 3) sc__law_weight.nd rfl (by first | exact .inl rfl | exact .inr rfl) (pe_ix ix_seq (pe_lst (pa_cons pe_int (pa_cons pe_int (pa_cons pe_int (pa_cons pe_int (pa_cons pe_int (pa_cons pe_int (pa_cons pe_int pa_nil)))))))) (pe_callD g__law_next (hr.mono (by decide)) (by rfl) (pa_cons (pv 0) (pa_cons pe_int pa_nil))) (fun _ _ => rfl)))
      (pss_cons (ps_if (PW.pt (pw_and (pt_cmpR (op_eqD hr.units) (pe_callD g__law_next (hr.mono (by decide)) (by rfl) (pa_cons (pv 0) (pa_cons pe_int pa_nil))) pe_int (nomark _)) (pw_and1 (pt_cmpR op_gt (pv 1) pe_int (nomark _))))) (pss_one (ps_ret (pe_callD g__law_fraction (hr.mono (by decide)) (by rfl) (pa_cons (pe_op op_add (pe_op op_mul (pv 2) pe_int) pe_int) (pa_cons (pv 3) pa_nil))))) pss_nil)
      (pss_one (ps_ret (pe_callD g__law_fraction (hr.mono (by decide)) (by rfl) (pa_cons (pv 2) (pa_cons (pv 3) pa_nil)))))))))))
def t__law_web (K : PySem.W.Frag) (Φ__law_next : Ph) (Φ__law_weight : Ph) : TS := (tSeq (tAsg (tOp rAddI (tVar 1) (tCall (SpD K Φ__law_next) [] E0 (tCons (tVar 0) (tCons (tOp rAddI (tOp rSubI (tVar 2) (tVar 1)) (tC (.int 1))) tNil)))) (gName 3))
    (tSeq (tAsg (tCall (SpD K Φ__law_next) [] E0 (tCons (tVar 0) (tCons (tC (.int 7)) tNil))) (gName 4))
    (tSeq (tAsg (tCall (SpD K Φ__law_next) [] E0 (tCons (tVar 0) (tCons (tC (.int 4)) tNil))) (gName 5))
    (tSeq (tAsg (tLst tNil) (gName 6))
    (tSeq (tFor (iRng1 (tCons (tVar 3) tNil)) (gName 7) (tFor (iRng2 (tCons (tOp rAddI (tVar 7) (tC (.int 1))) (tCons (tVar 3) tNil))) (gName 8) (tIfS (tTest (tOp rGeI (tCall (SpD K Φ__law_next) [] E0 (tCons (tVar 0) (tCons (tC (.int 4)) tNil))) (tVar 5))) (tDrop (tBM K "list" rAppend (tVar 6) (tCons (tTup (tCons (tVar 7) (tCons (tVar 8) (tCons (tCall (SpD K Φ__law_weight) [] E0 (tCons (tVar 0) (tCons (tVar 4) tNil))) tNil)))) tNil))) tNext)))
    (tRet (tTup (tCons (tVar 3) (tCons (tCB (rTupQ K) (tCons (tVar 6) tNil)) tNil)))))))))
theorem dv__law_web {f : Addr} {cdv : Value} {A : Around} {outer : List Env} {s : Shared} {H : Hp} {E : XK} (hr : Room 3 (A.deeper (envOfC "_law_web" (defScope s__law_web) s.heap.objs.size f cdv))) (B : ∀ x, x ∈ blt → mg x = none) {Φ__law_next : Ph} {Φ__law_weight : Ph} (g__law_next : Kn Pg w K mg base "_law_next" 1 ["_law_xs", "_law_many"] Φ__law_next) (g__law_weight : Kn Pg w K mg base "_law_weight" 3 ["_law_xs", "_law_manner"] Φ__law_weight) :
    PSs (cxOf CX0 Pg w K mg base ["_law_xs", "_law_least", "_law_most", "_law_many", "_law_manner", "_law_thin", "_law_ties", "_law_one", "_law_other"] "_law_web" (defScope s__law_web) f cdv A outer s H E).nox (defBody s__law_web) (t__law_web K Φ__law_next Φ__law_weight) :=
  (pss_cons (ps_set (i := 3) sc__law_web.nd rfl (by first | exact .inl rfl | exact .inr rfl) (pe_op op_add (pv 1) (pe_callD g__law_next (hr.mono (by decide)) (by rfl) (pa_cons (pv 0) (pa_cons (pe_op op_add (pe_op op_sub (pv 2) (pv 1)) pe_int) pa_nil)))))
      (pss_cons (ps_set (i := 4) sc__law_web.nd rfl (by first | exact .inl rfl | exact .inr rfl) (pe_callD g__law_next (hr.mono (by decide)) (by rfl) (pa_cons (pv 0) (pa_cons pe_int pa_nil))))
      (pss_cons (ps_set (i := 5) sc__law_web.nd rfl (by first | exact .inl rfl | exact .inr rfl) (pe_callD g__law_next (hr.mono (by decide)) (by rfl) (pa_cons (pv 0) (pa_cons pe_int pa_nil))))
      (pss_cons (ps_set (i := 6) sc__law_web.nd rfl (by first | exact .inl rfl | exact .inr rfl) (pe_lst pa_nil))
      (pss_cons (ps_for PassesOwn.never rfl (pi_range1 (by rfl) (B "range" (by decide)) (pa_cons (pv 3) pa_nil)) (pg_name (i := 7) sc__law_web.nd rfl (by first | exact .inl rfl | exact .inr rfl)) (pss_one (ps_for PassesOwn.never rfl (pi_range2 (by rfl) (B "range" (by decide)) (pa_cons (pe_op op_add (pv 7) pe_int) (pa_cons (pv 3) pa_nil))) (pg_name (i := 8) sc__law_web.nd rfl (by first | exact .inl rfl | exact .inr rfl)) (pss_one (ps_if (pt_cmpR op_ge (pe_callD g__law_next (hr.mono (by decide)) (by rfl) (pa_cons (pv 0) (pa_cons pe_int pa_nil))) (pv 5) (nomark _)) (pss_one (ps_expr (pe_bm PySem.F.plainAttrs_list PySem.F.slot_list_append PySem.F.type_list_append mt_append (pv 6) (pa_cons (pe_tup (pa_cons (pv 7) (pa_cons (pv 8) (pa_cons (pe_callD g__law_weight (hr.mono (by decide)) (by rfl) (pa_cons (pv 0) (pa_cons (pv 4) pa_nil))) pa_nil)))) pa_nil)))) pss_nil)))))
      (pss_one (ps_ret (pe_tup (pa_cons (pv 3) (pa_cons (pe_callTy call_tuple_of (by rfl) (B "tuple" (by decide)) (by decide +kernel) (pa_cons (pv 6) pa_nil)) pa_nil))))))))))
def t__law_sum (K : PySem.W.Frag) (Φ__law_fraction : Ph) : TS := (tSeq (tAsg (tTup (tCons (tC (.int 0)) (tCons (tC (.int 1)) tNil))) (gTup K 2 (gCons (gName 1) (gCons (gName 2) gNil))))
    (tSeq (tFor (iList K (tVar 0)) (gTup K 2 (gCons (gName 3) (gCons (gName 4) gNil))) (tAsg (tCall (SpD K Φ__law_fraction) [] E0 (tCons (tOp rAddI (tOp rMulX (tVar 1) (tVar 4)) (tOp rMulX (tVar 3) (tVar 2))) (tCons (tOp rMulX (tVar 2) (tVar 4)) tNil))) (gTup K 2 (gCons (gName 1) (gCons (gName 2) gNil)))))
    (tRet (tTup (tCons (tVar 1) (tCons (tVar 2) tNil))))))
theorem dv__law_sum {f : Addr} {cdv : Value} {A : Around} {outer : List Env} {s : Shared} {H : Hp} {E : XK} (hr : Room 2 (A.deeper (envOfC "_law_sum" (defScope s__law_sum) s.heap.objs.size f cdv))) (B : ∀ x, x ∈ blt → mg x = none) {Φ__law_fraction : Ph} (g__law_fraction : Kn Pg w K mg base "_law_fraction" 2 ["_law_top", "_law_bottom"] Φ__law_fraction) :
    PSs (cxOf CX0 Pg w K mg base ["_law_fractions", "_law_top", "_law_bottom", "_law_one", "_law_other"] "_law_sum" (defScope s__law_sum) f cdv A outer s H E).nox (defBody s__law_sum) (t__law_sum K Φ__law_fraction) :=
  (pss_cons (ps_asg (pe_tup (pa_cons pe_int (pa_cons pe_int pa_nil))) (pg_tup rfl (pgs_cons (pg_name (i := 1) sc__law_sum.nd rfl (by first | exact .inl rfl | exact .inr rfl)) (pgs_cons (pg_name (i := 2) sc__law_sum.nd rfl (by first | exact .inl rfl | exact .inr rfl)) pgs_nil))))
      (pss_cons (ps_for PassesOwn.never rfl (pi_list (pv 0)) (pg_tup rfl (pgs_cons (pg_name (i := 3) sc__law_sum.nd rfl (by first | exact .inl rfl | exact .inr rfl)) (pgs_cons (pg_name (i := 4) sc__law_sum.nd rfl (by first | exact .inl rfl | exact .inr rfl)) pgs_nil))) (pss_one (ps_asg (pe_callD g__law_fraction (hr.mono (by decide)) (by rfl) (pa_cons (pe_op op_add (pe_op op_mulX (pv 1) (pv 4)) (pe_op op_mulX (pv 3) (pv 2))) (pa_cons (pe_op op_mulX (pv 2) (pv 4)) pa_nil))) (pg_tup rfl (pgs_cons (pg_name (i := 1) sc__law_sum.nd rfl (by first | exact .inl rfl | exact .inr rfl)) (pgs_cons (pg_name (i := 2) sc__law_sum.nd rfl (by first | exact .inl rfl | exact .inr rfl)) pgs_nil))))))
      (pss_one (ps_ret (pe_tup (pa_cons (pv 1) (pa_cons (pv 2) pa_nil)))))))
def t__law_weight_of (K : PySem.W.Frag) (Φ__law_sum : Ph) : TS := (tRet (tCall (SpD K Φ__law_sum) [] E0 (tCons (tLc (iTup K (tOp (rIx K) (tVar 0) (tC (.int 1)))) (gTup K 3 (gCons (gName 2) (gCons (gName 3) (gCons (gName 4) gNil)))) (tTest (tOp (rNeD K) (tOp (rIx K) (tVar 1) (tVar 2)) (tOp (rIx K) (tVar 1) (tVar 3)))) (tVar 4) [2, 3, 4]) tNil)))
theorem dv__law_weight_of {f : Addr} {cdv : Value} {A : Around} {outer : List Env} {s : Shared} {H : Hp} {E : XK} (hr : Room 3 (A.deeper (envOfC "_law_weight_of" (defScope s__law_weight_of) s.heap.objs.size f cdv))) (B : ∀ x, x ∈ blt → mg x = none) {Φ__law_sum : Ph} (g__law_sum : Kn Pg w K mg base "_law_sum" 3 ["_law_fractions"] Φ__law_sum) :
    PSs (cxOf CX0 Pg w K mg base ["_law_web_here", "_law_side", "_law_one", "_law_other", "_law_weight_here"] "_law_weight_of" (defScope s__law_weight_of) f cdv A outer s H E).nox (defBody s__law_weight_of) (t__law_weight_of K Φ__law_sum) :=
  (pss_one (ps_ret (pe_callD g__law_sum (hr.mono (by decide)) (by rfl) (pa_cons (pe_lc (own := [("_law_one", 2), ("_law_other", 3), ("_law_weight_here", 4)]) (g := (gTup K 3 (gCons (gName 2) (gCons (gName 3) (gCons (gName 4) gNil))))) (tt := (tTest (tOp (rNeD K) (tOp (rIx K) (tVar 1) (tVar 2)) (tOp (rIx K) (tVar 1) (tVar 3))))) rfl sc__law_weight_of.nd (pi_tup (pe_ix ix_seq (pv 0) pe_int (fun _ _ => rfl))) (blkOk_by (own := [("_law_one", 2), ("_law_other", 3), ("_law_weight_here", 4)]) (N := ["_law_web_here", "_law_side", "_law_one", "_law_other", "_law_weight_here"]) (sc := defScope s__law_weight_of) (by decide +kernel)) (fun _ _ _ _ _ => (pg_tup rfl (pgs_cons (pg_name (i := 2) sc__law_weight_of.nd rfl (by first | exact .inl rfl | exact .inr rfl)) (pgs_cons (pg_name (i := 3) sc__law_weight_of.nd rfl (by first | exact .inl rfl | exact .inr rfl)) (pgs_cons (pg_name (i := 4) sc__law_weight_of.nd rfl (by first | exact .inl rfl | exact .inr rfl)) pgs_nil))))) (fun _ _ _ _ _ => (pts_one (pt_cmpR (op_neD hr.units) (pe_ix ix_seq (pv 1) (pv 2) (fun _ _ => rfl)) (pe_ix ix_seq (pv 1) (pv 3) (fun _ _ => rfl)) (nomark _)))) (fun _ _ _ _ _ => (pv 4))) pa_nil))))
def t__law_is_right (K : PySem.W.Frag) (Φ_lost_ties : Ph) (Φ_cut_ties : Ph) (Φ_size_of : Ph) (Φ__law_sum : Ph) (Φ_top_of : Ph) (Φ__law_weight_of : Ph) (Φ_weight_of : Ph) : TS := (tSeq (tAsg (tLst tNil) (gName 2))
    (tSeq (tAsg (tLst tNil) (gName 3))
    (tSeq (tFor (iRng1 (tCons (tCB (rLenQ K) (tCons (tOp (rIx K) (tVar 0) (tC (.int 1))) tNil)) tNil)) (gName 4) (tSeq (tAsg (tOp (rIx K) (tOp (rIx K) (tVar 0) (tC (.int 1))) (tVar 4)) (gTup K 3 (gCons (gName 5) (gCons (gName 6) (gCons (gName 7) gNil)))))
    (tSeq (tAsg (tOp (rNeD K) (tOp (rIx K) (tVar 1) (tVar 5)) (tOp (rIx K) (tVar 1) (tVar 6))) (gName 8))
    (tSeq (tIfS (L2.tB (tVar 8)) (tDrop (tBM K "list" rAppend (tVar 2) (tCons (tVar 4) tNil))) tNext)
    (tIfS (tOr (tAnd (L2.tB (tVar 8)) (tTest (tOp rLeI (tOp (rIx K) (tVar 7) (tC (.int 0))) (tC (.int 0))))) (tAnd (tNot (L2.tB (tVar 8))) (tTest (tOp rGtI (tOp (rIx K) (tVar 7) (tC (.int 0))) (tC (.int 0)))))) (tDrop (tBM K "list" rAppend (tVar 3) (tCons (tVar 4) tNil))) tNext)))))
    (tSeq (tIfS (tOr (tTest (tOp (rNeD K) (tCall (SpD K Φ_cut_ties) [] E0 (tCons (tVar 0) (tCons (tVar 1) tNil))) (tCB (rTupQ K) (tCons (tVar 2) tNil)))) (tTest (tOp (rNeD K) (tCall (SpD K Φ_lost_ties) [] E0 (tCons (tVar 0) (tCons (tVar 1) tNil))) (tCB (rTupQ K) (tCons (tVar 3) tNil))))) (tRet (tC (.bl false))) tNext)
    (tSeq (tAsg (tLc (iList K (tVar 3)) (gName 4) tYes (tTup (tCons (tOp rSubI (tC (.int 0)) (tOp (rIx K) (tCall (SpD K Φ_size_of) [] E0 (tCons (tVar 0) (tCons (tVar 4) tNil))) (tC (.int 0)))) (tCons (tOp (rIx K) (tCall (SpD K Φ_size_of) [] E0 (tCons (tVar 0) (tCons (tVar 4) tNil))) (tC (.int 1))) tNil))) [4]) (gName 9))
    (tSeq (tAsg (tCall (SpD K Φ__law_sum) [] E0 (tCons (tOp rCat (tLst (tCons (tCall (SpD K Φ_top_of) [] E0 (tCons (tVar 0) tNil)) tNil)) (tVar 9)) tNil)) (gName 10))
    (tRet (tAndV (tOp (rEqD K) (tCall (SpD K Φ_weight_of) [] E0 (tCons (tVar 0) (tCons (tVar 1) tNil))) (tVar 10)) (tOp (rEqD K) (tVar 10) (tCall (SpD K Φ__law_weight_of) [] E0 (tCons (tVar 0) (tCons (tVar 1) tNil))))))))))))
theorem dv__law_is_right {f : Addr} {cdv : Value} {A : Around} {outer : List Env} {s : Shared} {H : Hp} {E : XK} (hr : Room 5 (A.deeper (envOfC "_law_is_right" (defScope s__law_is_right) s.heap.objs.size f cdv))) (B : ∀ x, x ∈ blt → mg x = none) {Φ_lost_ties : Ph} {Φ_cut_ties : Ph} {Φ_size_of : Ph} {Φ__law_sum : Ph} {Φ_top_of : Ph} {Φ__law_weight_of : Ph} {Φ_weight_of : Ph} (g_lost_ties : Kn Pg w K mg base "lost_ties" 2 ["web", "side"] Φ_lost_ties) (g_cut_ties : Kn Pg w K mg base "cut_ties" 2 ["web", "side"] Φ_cut_ties) (g_size_of : Kn Pg w K mg base "size_of" 1 ["web", "tie"] Φ_size_of) (g__law_sum : Kn Pg w K mg base "_law_sum" 3 ["_law_fractions"] Φ__law_sum) (g_top_of : Kn Pg w K mg base "top_of" 5 ["web"] Φ_top_of) (g__law_weight_of : Kn Pg w K mg base "_law_weight_of" 4 ["_law_web_here", "_law_side"] Φ__law_weight_of) (g_weight_of : Kn Pg w K mg base "weight_of" 5 ["web", "side"] Φ_weight_of) :
    PSs (cxOf CX0 Pg w K mg base ["_law_web_here", "_law_side", "_law_cut", "_law_lost", "_law_number", "_law_one", "_law_other", "_law_weight_here", "_law_crosses", "_law_taken", "_law_left"] "_law_is_right" (defScope s__law_is_right) f cdv A outer s H E).nox (defBody s__law_is_right) (t__law_is_right K Φ_lost_ties Φ_cut_ties Φ_size_of Φ__law_sum Φ_top_of Φ__law_weight_of Φ_weight_of) :=
  (pss_cons (ps_set (i := 2) sc__law_is_right.nd rfl (by first | exact .inl rfl | exact .inr rfl) (pe_lst pa_nil))
      (pss_cons (ps_set (i := 3) sc__law_is_right.nd rfl (by first | exact .inl rfl | exact .inr rfl) (pe_lst pa_nil))
      (pss_cons (ps_for PassesOwn.never rfl (pi_range1 (by rfl) (B "range" (by decide)) (pa_cons (pe_callB call_len_seq (by rfl) (B "len" (by decide)) (by decide +kernel) (pa_cons (pe_ix ix_seq (pv 0) pe_int (fun _ _ => rfl)) pa_nil)) pa_nil)) (pg_name (i := 4) sc__law_is_right.nd rfl (by first | exact .inl rfl | exact .inr rfl)) (pss_cons (ps_asg (pe_ix ix_seq (pe_ix ix_seq (pv 0) pe_int (fun _ _ => rfl)) (pv 4) (fun _ _ => rfl)) (pg_tup rfl (pgs_cons (pg_name (i := 5) sc__law_is_right.nd rfl (by first | exact .inl rfl | exact .inr rfl)) (pgs_cons (pg_name (i := 6) sc__law_is_right.nd rfl (by first | exact .inl rfl | exact .inr rfl)) (pgs_cons (pg_name (i := 7) sc__law_is_right.nd rfl (by first | exact .inl rfl | exact .inr rfl)) pgs_nil)))))
      (pss_cons (ps_set (i := 8) sc__law_is_right.nd rfl (by first | exact .inl rfl | exact .inr rfl) (pe_cmpR (op_neD hr.units) (pe_ix ix_seq (pv 1) (pv 5) (fun _ _ => rfl)) (pe_ix ix_seq (pv 1) (pv 6) (fun _ _ => rfl)) (nomark _)))
      (pss_cons (ps_if (pt_val (pv 8)) (pss_one (ps_expr (pe_bm PySem.F.plainAttrs_list PySem.F.slot_list_append PySem.F.type_list_append mt_append (pv 2) (pa_cons (pv 4) pa_nil)))) pss_nil)
      (pss_one (ps_if (PW.pt (pw_or (PW.pt (pw_and (pt_val (pv 8)) (pw_and1 (pt_cmpR op_le (pe_ix ix_seq (pv 7) pe_int (fun _ _ => rfl)) pe_int (nomark _))))) (pw_or1 (PW.pt (pw_and (pt_not (pt_val (pv 8))) (pw_and1 (pt_cmpR op_gt (pe_ix ix_seq (pv 7) pe_int (fun _ _ => rfl)) pe_int (nomark _)))))))) (pss_one (ps_expr (pe_bm PySem.F.plainAttrs_list PySem.F.slot_list_append PySem.F.type_list_append mt_append (pv 3) (pa_cons (pv 4) pa_nil)))) pss_nil))))))
      (pss_cons (ps_if (PW.pt (pw_or (pt_cmpR (op_neD hr.units) (pe_callD g_cut_ties (hr.mono (by decide)) (by rfl) (pa_cons (pv 0) (pa_cons (pv 1) pa_nil))) (pe_callTy call_tuple_of (by rfl) (B "tuple" (by decide)) (by decide +kernel) (pa_cons (pv 2) pa_nil)) (nomark _)) (pw_or1 (pt_cmpR (op_neD hr.units) (pe_callD g_lost_ties (hr.mono (by decide)) (by rfl) (pa_cons (pv 0) (pa_cons (pv 1) pa_nil))) (pe_callTy call_tuple_of (by rfl) (B "tuple" (by decide)) (by decide +kernel) (pa_cons (pv 3) pa_nil)) (nomark _))))) (pss_one (ps_ret pe_bl)) pss_nil)
      (pss_cons (ps_setLc (i := 9) (own := [("_law_number", 4)]) (g := (gName 4)) (tt := tYes) rfl sc__law_is_right.nd rfl rfl (sw_true rfl rfl rfl (by decide +kernel)) (pi_list (pv 3)) (blkOk_by (own := [("_law_number", 4)]) (N := ["_law_web_here", "_law_side", "_law_cut", "_law_lost", "_law_number", "_law_one", "_law_other", "_law_weight_here", "_law_crosses", "_law_taken", "_law_left"]) (sc := defScope s__law_is_right) (by decide +kernel)) (fun _ _ _ _ _ => (pg_name (i := 4) sc__law_is_right.nd rfl (by first | exact .inl rfl | exact .inr rfl))) (fun _ _ _ _ _ => pts_nil) (fun _ _ _ _ _ => (pe_tup (pa_cons (pe_op op_sub pe_int (pe_ix ix_seq (pe_callD g_size_of (hr.mono (by decide)) (by rfl) (pa_cons (pv 0) (pa_cons (pv 4) pa_nil))) pe_int (fun _ _ => rfl))) (pa_cons (pe_ix ix_seq (pe_callD g_size_of (hr.mono (by decide)) (by rfl) (pa_cons (pv 0) (pa_cons (pv 4) pa_nil))) pe_int (fun _ _ => rfl)) pa_nil)))))
      (pss_cons (ps_set (i := 10) sc__law_is_right.nd rfl (by first | exact .inl rfl | exact .inr rfl) (pe_callD g__law_sum (hr.mono (by decide)) (by rfl) (pa_cons (pe_op op_cat (pe_lst (pa_cons (pe_callD g_top_of (hr.mono (by decide)) (by rfl) (pa_cons (pv 0) pa_nil)) pa_nil)) (pv 9)) pa_nil)))
      (pss_one (ps_ret (pe_and (pe_cmpR (op_eqD hr.units) (pe_callD g_weight_of (hr.mono (by decide)) (by rfl) (pa_cons (pv 0) (pa_cons (pv 1) pa_nil))) (pv 10) (nomark _)) (pe_one (pe_cmpR (op_eqD hr.units) (pv 10) (pe_callD g__law_weight_of (hr.mono (by decide)) (by rfl) (pa_cons (pv 0) (pa_cons (pv 1) pa_nil))) (nomark _))))))))))))
def t_law (K : PySem.W.Frag) (Φ__law_stream : Ph) (Φ__law_cell_at : Ph) (Φ__law_web : Ph) (Φ__law_next : Ph) (Φ__law_is_right : Ph) : TS := (tSeq (tAsg (tCall (SpD K Φ__law_stream) [] E0 (tCons (tCall (SpD K Φ__law_cell_at) [] E0 (tCons (tVar 0) (tCons (tC (.int 0)) tNil))) (tCons (tC (.int 190)) tNil))) (gName 1))
    (tSeq (tAsg (tCall (SpD K Φ__law_web) [] E0 (tCons (tVar 1) (tCons (tC (.int 1)) (tCons (tC (.int 9)) tNil)))) (gName 2))
    (tSeq (tFor (iList K (tSl (rSlL K) (tVar 0) (tPart (tC (.int 1))) (tPart (tC (.int 13))))) (gName 3) (tSeq (tAsg (tCall (SpD K Φ__law_stream) [] E0 (tCons (tVar 3) (tCons (tC (.int 12)) tNil))) (gName 4))
    (tSeq (tAsg (tOp (rCatT K) (tTup (tCons (tC (.int 0)) tNil)) (tCB (rTupQ K) (tCons (tLc (iRng1 (tCons (tOp rSubI (tOp (rIx K) (tVar 2) (tC (.int 0))) (tC (.int 1))) tNil)) (gName 6) tYes (tCall (SpD K Φ__law_next) [] E0 (tCons (tVar 4) (tCons (tC (.int 2)) tNil))) [6]) tNil))) (gName 5))
    (tIfS (tNot (L2.tB (tCall (SpD K Φ__law_is_right) [] E0 (tCons (tVar 2) (tCons (tVar 5) tNil))))) (tRet (tC (.bl false))) tNext))))
    (tRet (tCall (SpD K Φ__law_is_right) [] E0 (tCons (tVar 2) (tCons (tOp (rRepQ K) (tTup (tCons (tC (.int 0)) tNil)) (tOp (rIx K) (tVar 2) (tC (.int 0)))) tNil)))))))
theorem dv_law {f : Addr} {cdv : Value} {A : Around} {outer : List Env} {s : Shared} {H : Hp} {E : XK} (hr : Room 6 (A.deeper (envOfC "law" (defScope s_law) s.heap.objs.size f cdv))) (B : ∀ x, x ∈ blt → mg x = none) {Φ__law_stream : Ph} {Φ__law_cell_at : Ph} {Φ__law_web : Ph} {Φ__law_next : Ph} {Φ__law_is_right : Ph} (g__law_stream : Kn Pg w K mg base "_law_stream" 1 ["_law_cell", "_law_many"] Φ__law_stream) (g__law_cell_at : Kn Pg w K mg base "_law_cell_at" 1 ["_law_script", "_law_k"] Φ__law_cell_at) (g__law_web : Kn Pg w K mg base "_law_web" 4 ["_law_xs", "_law_least", "_law_most"] Φ__law_web) (g__law_next : Kn Pg w K mg base "_law_next" 1 ["_law_xs", "_law_many"] Φ__law_next) (g__law_is_right : Kn Pg w K mg base "_law_is_right" 6 ["_law_web_here", "_law_side"] Φ__law_is_right) :
    PSs (cxOf CX0 Pg w K mg base ["_law_script", "_law_xs", "_law_web_here", "_law_cell", "_law_ys", "_law_side", "_law_k"] "law" (defScope s_law) f cdv A outer s H E).nox (defBody s_law) (t_law K Φ__law_stream Φ__law_cell_at Φ__law_web Φ__law_next Φ__law_is_right) :=
  (pss_cons (ps_set (i := 1) sc_law.nd rfl (by first | exact .inl rfl | exact .inr rfl) (pe_callD g__law_stream (hr.mono (by decide)) (by rfl) (pa_cons (pe_callD g__law_cell_at (hr.mono (by decide)) (by rfl) (pa_cons (pv 0) (pa_cons pe_int pa_nil))) (pa_cons pe_int pa_nil))))
      (pss_cons (ps_set (i := 2) sc_law.nd rfl (by first | exact .inl rfl | exact .inr rfl) (pe_callD g__law_web (hr.mono (by decide)) (by rfl) (pa_cons (pv 1) (pa_cons pe_int (pa_cons pe_int pa_nil)))))
      (pss_cons (ps_for PassesOwn.never rfl (pi_list (pe_slice sl_list (pv 0) (po_some pe_int) (po_some pe_int))) (pg_name (i := 3) sc_law.nd rfl (by first | exact .inl rfl | exact .inr rfl)) (pss_cons (ps_set (i := 4) sc_law.nd rfl (by first | exact .inl rfl | exact .inr rfl) (pe_callD g__law_stream (hr.mono (by decide)) (by rfl) (pa_cons (pv 3) (pa_cons pe_int pa_nil))))
      (pss_cons (ps_set (i := 5) sc_law.nd rfl (by first | exact .inl rfl | exact .inr rfl) (pe_op op_catT (pe_tup (pa_cons pe_int pa_nil)) (pe_callTy call_tuple_of (by rfl) (B "tuple" (by decide)) (by decide +kernel) (pa_cons (pe_lc (own := [("_law_k", 6)]) (g := (gName 6)) (tt := tYes) rfl sc_law.nd (pi_range1 (by rfl) (B "range" (by decide)) (pa_cons (pe_op op_sub (pe_ix ix_seq (pv 2) pe_int (fun _ _ => rfl)) pe_int) pa_nil)) (blkOk_by (own := [("_law_k", 6)]) (N := ["_law_script", "_law_xs", "_law_web_here", "_law_cell", "_law_ys", "_law_side", "_law_k"]) (sc := defScope s_law) (by decide +kernel)) (fun _ _ _ _ _ => (pg_name (i := 6) sc_law.nd rfl (by first | exact .inl rfl | exact .inr rfl))) (fun _ _ _ _ _ => pts_nil) (fun _ _ _ _ _ => (pe_callD g__law_next (hr.mono (by decide)) (by rfl) (pa_cons (pv 4) (pa_cons pe_int pa_nil))))) pa_nil))))
      (pss_one (ps_if (pt_not (pt_val (pe_callD g__law_is_right (hr.mono (by decide)) (by rfl) (pa_cons (pv 2) (pa_cons (pv 5) pa_nil))))) (pss_one (ps_ret pe_bl)) pss_nil)))))
      (pss_one (ps_ret (pe_callD g__law_is_right (hr.mono (by decide)) (by rfl) (pa_cons (pv 2) (pa_cons (pe_op op_repQ (pe_tup (pa_cons pe_int pa_nil)) (pe_ix ix_seq (pv 2) pe_int (fun _ _ => rfl))) pa_nil))))))))
end
local macro_rules | `(tactic| walk_at "ev") => `(tactic| first
  | ((with_reducible apply e_var); exact rfl) | ((with_reducible apply e_varm); exact rfl) | ((with_reducible apply e_vars); exact rfl)
  | with_reducible refine e_int ?_ | with_reducible refine e_bl ?_ | with_reducible refine e_non ?_ | with_reducible refine e_str ?_
  | with_reducible refine e_op ?_ | with_reducible refine e_un ?_
  | ((with_reducible refine rr_I0 ?_); refine ⟨_, _, rfl, rfl, ?_⟩) | ((with_reducible refine rr_B0 ?_); refine ⟨_, _, rfl, rfl, ?_⟩)
  | ((with_reducible refine rr_isB ?_); refine ⟨_, _, rfl, rfl, ?_⟩) | ((with_reducible refine rr_notB ?_); refine ⟨_, _, rfl, rfl, ?_⟩)
  | ((with_reducible refine ru_I ?_); refine ⟨_, rfl, ?_⟩)
  | with_reducible refine e_isi instInt ?_ | with_reducible refine e_isi instBool ?_ | with_reducible refine e_isi instTuple ?_ | with_reducible refine e_isiT instList instTuple ?_
  | with_reducible refine e_cb ?_ | with_reducible refine e_call ?_ | with_reducible refine e_callX0 ?_ | with_reducible refine e_chain ?_
  | with_reducible refine ea_cons ?_ | with_reducible refine ea_nil ?_
  | with_reducible refine e_slL ?_ | with_reducible refine eo_some ?_ | with_reducible refine eo_none ?_
  | with_reducible refine e_tup ?_ | with_reducible refine e_lst ?_
  | with_reducible refine e_and ?_ | with_reducible refine e_or ?_ | with_reducible refine e_not ?_ | with_reducible refine e_if ?_
  | with_reducible refine et_test ?_ | with_reducible refine et_B ?_ | with_reducible refine et_and ?_ | with_reducible refine et_or ?_ | with_reducible refine et_not ?_ | with_reducible refine et_yes ?_
  | with_reducible refine s_seq ?_ | with_reducible refine s_asg ?_ | with_reducible refine s_ret ?_ | with_reducible refine s_drop ?_ | with_reducible refine s_if ?_ | with_reducible refine s_next ?_ | with_reducible refine s_par ?_
  | ((with_reducible refine rc_abs ?_); refine ⟨_, rfl, ?_⟩) | ((with_reducible refine rc_max ?_); refine ⟨_, _, rfl, ?_⟩) | ((with_reducible refine rc_min ?_); refine ⟨_, _, rfl, ?_⟩)
  | ((with_reducible refine rr_ix ?_); first | refine ⟨_, _, _, .inr (.d _), rfl, atI_nat (j := 0) rfl, ?_⟩ | refine ⟨_, _, _, .inr (.d _), rfl, atI_nat (j := 1) rfl, ?_⟩ | refine ⟨_, _, _, .inr (.d _), rfl, atI_nat (j := 2) rfl, ?_⟩ | refine ⟨_, _, _, .inl (.d _), rfl, atI_nat (j := 0) rfl, ?_⟩ | refine ⟨_, _, _, .inl (.d _), rfl, atI_nat (j := 1) rfl, ?_⟩ | refine ⟨_, _, _, .inl (.d _), rfl, atI_nat (j := 2) rfl, ?_⟩)
  | ((with_reducible apply Exists.intro); first | refine ⟨(rfl : _ = List.map SD.d []), Nat.le_of_ble_eq_true rfl, ?_⟩ | refine ⟨(rfl : _ = List.map SD.d [_]), Nat.le_of_ble_eq_true rfl, ?_⟩ | refine ⟨(rfl : _ = List.map SD.d [_, _]), Nat.le_of_ble_eq_true rfl, ?_⟩ | refine ⟨(rfl : _ = List.map SD.d [_, _, _]), Nat.le_of_ble_eq_true rfl, ?_⟩ | refine ⟨(rfl : _ = List.map SD.d [_, _, _, _]), Nat.le_of_ble_eq_true rfl, ?_⟩ | refine ⟨Sv.d _, nofun, ?_⟩ | refine ⟨Sv.d _, ?_⟩ | refine ⟨rfl, ?_⟩ | ((with_reducible apply Exists.intro); refine ⟨rfl, ?_⟩)))
local macro_rules | `(tactic| walk_at "evs") => `(tactic| repeat walk_at "ev")

def Φ_common_divisor : Ph := ph2 fun a b ms R => ∃ i j, a = .d (.int i) ∧ b = .d (.int j) ∧ R (.d (.int (Int.gcd i j))) ms
theorem len_common_divisor : ∀ as ms R, Φ_common_divisor as ms R → as.length = 2 := ph2_len
theorem rd_common_divisor {K : PySem.W.Frag} : ∀ as ms R, Φ_common_divisor as ms R → S K (t_common_divisor K) (as ++ List.replicate (2 - as.length) .u) ms (fin R) := by
  rintro as ms R ⟨a, b, rfl, i, j, rfl, rfl, r⟩
  unfold t_common_divisor
  walk_at "evs"
  rw [abs_nat, abs_nat]
  refine s_while (fun m ds ms' => ∃ x y : Nat, ds = [.d (.int x), .d (.int y)] ∧ ms' = ms ∧ Nat.gcd x y = Int.gcd i j ∧ m = y) j.natAbs ⟨i.natAbs, j.natAbs, rfl, rfl, rfl, rfl⟩ ?_
  rintro m ds ms' ⟨x, y, rfl, rfl, hg, hm⟩
  walk_at "evs"
  refine rr_ne ⟨_, _, .d _, .d _, shaped_int _, shaped_int _, _, rfl, ?_, ?_⟩
  · intro h
    walk_at "evs"
    have hy : y ≠ 0 := by
      intro z
      subst z
      rw [eqv_int] at h
      simp at h
    refine rr_I ⟨_, _, rfl, rfl, by omega, ?_⟩
    walk_at "evs"
    rw [fmod_nat]
    exact ⟨x % y, by rw [hm]; exact Nat.mod_lt _ (by omega), y, x % y, rfl, rfl, by rw [gcd_step]; exact hg, rfl⟩
  · intro h
    walk_at "evs"
    have hy : y = 0 := by
      rw [eqv_int] at h
      simp at h
      omega
    subst hy
    rw [Nat.gcd_zero_right] at hg
    rw [hg]
    exact r

def Φ_as_fraction : Ph := ph2 fun a b ms R => ∃ i j, a = .d (.int i) ∧ b = .d (.int j) ∧ j ≠ 0 ∧ Bd 8000 j ∧ R (.d (pr (fr i j))) ms
theorem len_as_fraction : ∀ as ms R, Φ_as_fraction as ms R → as.length = 2 := ph2_len
theorem rd_as_fraction {K : PySem.W.Frag} : ∀ as ms R, Φ_as_fraction as ms R → S K (t_as_fraction K Φ_common_divisor) (as ++ List.replicate (3 - as.length) .u) ms (fin R) := by
  rintro as ms R ⟨a, b, rfl, i, j, rfl, rfl, hj, hb, r⟩
  have hg : 0 < Int.gcd i j := Int.gcd_pos_of_ne_zero_right i hj
  have hgb : Bd 8000 (Int.gcd i j : Int) := hb.le (by
    have := Int.gcd_le_natAbs_right i hj
    omega)
  unfold t_as_fraction
  walk_at "evs"
  refine ⟨_, _, rfl, i, j, rfl, rfl, ?_⟩
  walk_at "evs"
  refine ⟨fun h => ?_, fun h => ?_⟩
  · walk_at "evs"
    refine rr_I ⟨_, _, rfl, rfl, ⟨by omega, hgb.neg⟩, ?_⟩
    walk_at "evs"
    refine rr_I ⟨_, _, rfl, rfl, ⟨by omega, hgb.neg⟩, ?_⟩
    walk_at "evs"
    have e : fr i j = (i.fdiv (-(Int.gcd i j : Int)), j.fdiv (-(Int.gcd i j : Int))) := if_pos (by simpa using h)
    rw [e] at r
    exact r
  · walk_at "evs"
    refine rr_I ⟨_, _, rfl, rfl, ⟨by omega, hgb⟩, ?_⟩
    walk_at "evs"
    refine rr_I ⟨_, _, rfl, rfl, ⟨by omega, hgb⟩, ?_⟩
    walk_at "evs"
    have e : fr i j = (i.fdiv (Int.gcd i j), j.fdiv (Int.gcd i j)) := if_neg (by simpa using h)
    rw [e] at r
    exact r

def Φ_plus : Ph := ph2 fun a b ms R => ∃ p q : Int × Int, a = .d (pr p) ∧ b = .d (pr q) ∧ (p.2 ≠ 0 ∧ q.2 ≠ 0 ∧ Bd 20000 p.1 ∧ Bd 4000 p.2 ∧ Bd 20000 q.1 ∧ Bd 4000 q.2) ∧ R (.d (pr (fr (p.1 * q.2 + q.1 * p.2) (p.2 * q.2)))) ms
theorem len_plus : ∀ as ms R, Φ_plus as ms R → as.length = 2 := ph2_len
theorem rd_plus {K : PySem.W.Frag} : ∀ as ms R, Φ_plus as ms R → S K (t_plus K Φ_as_fraction) (as ++ List.replicate (2 - as.length) .u) ms (fin R) := by
  rintro as ms R ⟨a, b, rfl, p, q, rfl, rfl, ⟨hp, hq, b1, b2, b3, b4⟩, r⟩
  have up : ∀ {x : Int}, Bd 20000 x → Bd 100000 x := fun h => h.mono (by decide)
  have uq : ∀ {x : Int}, Bd 4000 x → Bd 100000 x := fun h => h.mono (by decide)
  unfold t_plus
  walk_at "evs"
  refine rr_I ⟨_, _, rfl, rfl, ⟨up b1, uq b4⟩, ?_⟩
  walk_at "evs"
  refine rr_I ⟨_, _, rfl, rfl, ⟨up b3, uq b2⟩, ?_⟩
  walk_at "evs"
  refine rr_I ⟨_, _, rfl, rfl, ⟨uq b2, uq b4⟩, ?_⟩
  walk_at "evs"
  exact ⟨_, _, rfl, _, _, rfl, rfl, Int.mul_ne_zero hp hq, (b2.mul b4).mono (by decide), r⟩

def halve : List (Int × Int) → List (Int × Int)
  | [] => []
  | [a] => [a]
  | a :: b :: r => pl a b :: halve r
def aloneL {α : Type} (gs : List α) : List α := if gs.length % 2 = 1 then gs.drop (gs.length - 1) else []
theorem halve_is : ∀ gs : List (Int × Int), List.zipWith pl (ev2 gs) (ev2 (gs.drop 1)) ++ aloneL gs = halve gs
  | [] => rfl
  | [a] => rfl
  | [a, b] => by simp [ev2, aloneL, halve]
  | a :: b :: c :: r => by
    have ih := halve_is (c :: r)
    have e1 : ev2 ((a :: b :: c :: r).drop 1) = b :: ev2 ((c :: r).drop 1) := by
      cases r <;> rfl
    have e2 : aloneL (a :: b :: c :: r) = aloneL (c :: r) := by
      unfold aloneL
      have h1 : (a :: b :: c :: r).length % 2 = (c :: r).length % 2 := by simp only [List.length_cons]; omega
      rw [h1]
      have h2 : (a :: b :: c :: r).length - 1 = ((c :: r).length - 1) + 2 := by simp only [List.length_cons]; omega
      rw [h2]
      rfl
    rw [e1, e2]
    show pl a b :: (List.zipWith pl (ev2 (c :: r)) (ev2 ((c :: r).drop 1)) ++ aloneL (c :: r)) = pl a b :: halve (c :: r)
    rw [ih]
theorem halve_len : ∀ gs : List (Int × Int), (halve gs).length = (gs.length + 1) / 2
  | [] => by simp [halve]
  | [a] => by simp [halve]
  | a :: b :: r => by simp only [halve, List.length_cons, halve_len r]; omega
theorem ev2_map {α β : Type} (f : α → β) : ∀ l : List α, ev2 (l.map f) = (ev2 l).map f
  | [] => rfl
  | [a] => rfl
  | a :: b :: r => by simp only [List.map_cons, ev2, ev2_map f r]
structure Lp (j : Nat) (g : Int × Int) : Prop where
  lo : Lo g
  b1 : Bd (44 * 2 ^ j) g.1
  b2 : Bd (10 * 2 ^ j) g.2
theorem Lp.pl {j : Nat} {p q : Int × Int} (a : Lp j p) (b : Lp j q) : Lp (j + 1) (pl p q) := by
  have h1 : p.2 ≠ 0 := by have := a.lo.pos; omega
  have h2 : q.2 ≠ 0 := by have := b.lo.pos; omega
  have hne := Int.mul_ne_zero h1 h2
  have hx : 1 ≤ 2 ^ j := Nat.one_le_two_pow
  have e : 2 ^ (j + 1) = 2 * 2 ^ j := by rw [Nat.pow_succ]; omega
  generalize hX : 2 ^ j = X at *
  have x1 : Bd (54 * X) (p.1 * q.2) := by
    have := a.b1.mul b.b2
    rw [hX] at this
    exact this.mono (by omega)
  have x2 : Bd (54 * X) (q.1 * p.2) := by
    have := b.b1.mul a.b2
    rw [hX] at this
    exact this.mono (by omega)
  refine ⟨pl_lo h1 h2, ?_, ?_⟩
  · have y : Bd (54 * X + 1) (p.1 * q.2 + q.1 * p.2) := x1.add x2
    rw [e]
    exact (y.le (fr_le hne).1).mono (by omega)
  · have y := a.b2.mul b.b2
    rw [hX] at y
    rw [e]
    exact (y.le (fr_le hne).2).mono (by omega)
theorem halve_lp {j : Nat} : ∀ gs : List (Int × Int), (∀ g ∈ gs, Lp j g) → ∀ g ∈ halve gs, Lp (j + 1) g
  | [], _, g, hg => by cases hg
  | [a], h, g, hg => by
    have e : g = a := by simpa [halve] using hg
    have ha := h a (by simp)
    subst e
    exact ⟨ha.lo, ha.b1.mono (by rw [Nat.pow_succ]; omega), ha.b2.mono (by rw [Nat.pow_succ]; omega)⟩
  | a :: b :: r, h, g, hg => by
    rcases List.mem_cons.mp hg with rfl | hg
    · exact (h a (by simp)).pl (h b (by simp))
    · exact halve_lp r (fun x hx => h x (by simp [hx])) g hg
theorem halve_sum : ∀ gs : List (Int × Int), (∀ g ∈ gs, Lo g) → sumV (halve gs) = sumV gs
  | [], _ => rfl
  | [a], _ => rfl
  | a :: b :: r, h => by
    have h1 : a.2 ≠ 0 := by have := (h a (by simp)).pos; omega
    have h2 : b.2 ≠ 0 := by have := (h b (by simp)).pos; omega
    have ih := halve_sum r fun x hx => h x (by simp [hx])
    show val (pl a b) + sumV (halve r) = val a + (val b + sumV r)
    rw [ih, pl_val h1 h2]
    grind
def Φ_added : Ph := ph1 fun a ms R => ∃ fs : List (Int × Int), a = .d (.list (fs.map pr)) ∧ fs.length ≤ 200 ∧ (∀ f ∈ fs, Wt f) ∧ R (.d (pr (sumF fs))) ms
theorem len_added : ∀ as ms R, Φ_added as ms R → as.length = 1 := ph1_len
theorem rd_added {K : PySem.W.Frag} : ∀ as ms R, Φ_added as ms R → S K (t_added K Φ_plus) (as ++ List.replicate (5 - as.length) .u) ms (fin R) := by
  rintro as ms R ⟨a, rfl, fs, rfl, hl, hw, r⟩
  unfold t_added
  walk_at "evs"
  refine rc_list ⟨_, _, rfl, .inl (.d _), ?_⟩
  refine s_mid (fun ds' ms' => ∃ (g : List (Int × Int)) (o1 o2 o3 : SD), ds' = [.d (.list (fs.map pr)), .d (.list (g.map pr)), o1, o2, o3] ∧ ms' = ms ∧ ((g = [] ∧ fs = []) ∨ g = [sumF fs])) ?_ ?_
  · refine s_while (fun m ds' ms' => ∃ (gs : List (Int × Int)) (j : Nat) (o1 o2 o3 : SD), ds' = [.d (.list (fs.map pr)), .d (.list (gs.map pr)), o1, o2, o3] ∧ ms' = ms ∧ m = gs.length ∧ (∀ g ∈ gs, Lp j g) ∧ sumV gs = sumV fs ∧ (gs.length - 1) * 2 ^ j < 200 ∧ (gs = [] → fs = [])) fs.length ⟨fs, 0, .u, .u, .u, rfl, rfl, rfl, fun g hg => ?_, rfl, by omega, id⟩ ?_
    · have := hw g hg
      exact ⟨this.lo, this.b1.mono (by decide), this.b2.mono (by decide)⟩
    · rintro m ds' ms' ⟨gs, j, o1, o2, o3, rfl, rfl, rfl, hg, hs, hb, hn⟩
      walk_at "evs"
      refine rc_len ⟨_, _, rfl, .inl (.d _), ?_⟩
      walk_at "evs"
      refine ⟨fun h => ?_, fun h => ?_⟩
      · have h2 : 2 ≤ gs.length := by
          rw [List.length_map] at h
          have := of_decide_eq_true h
          omega
        have hj : 2 ^ j < 200 := by
          have : 1 * 2 ^ j ≤ (gs.length - 1) * 2 ^ j := Nat.mul_le_mul_right _ (by omega)
          omega
        refine s_mid (fun ds' ms1 => ds' = [.d (.list (fs.map pr)), .d (.list (gs.map pr)), .d (.list ((aloneL gs).map pr)), o2, o3] ∧ ms1 = ms') ?_ ?_
        · walk_at "evs"
          refine rc_len ⟨_, _, rfl, .inl (.d _), ?_⟩
          walk_at "evs"
          refine rr_I ⟨_, _, rfl, rfl, by decide, ?_⟩
          walk_at "evs"
          refine rr_eq ⟨_, _, .d _, .d _, shaped_int _, shaped_int _, ?_⟩
          rw [eqv_int, List.length_map]
          have em : Int.fmod (gs.length : Int) 2 = ((gs.length % 2 : Nat) : Int) := fmod_nat gs.length 2
          rw [em]
          refine ⟨_, rfl, fun h => ?_, fun h => ?_⟩
          · have h1 : gs.length % 2 = 1 := by
              have := of_decide_eq_true h
              omega
            refine e_slL (e_var rfl (eo_some (e_un (e_int (ru_I ⟨1, rfl, _, rfl, eo_none ⟨_, .d _, ?_, rfl⟩⟩)))))
            have e : Hc.cutD (gs.map pr) (some (-1)) none = (aloneL gs).map pr := by
              unfold Hc.cutD aloneL
              rw [if_pos h1, HT.sIx_none, List.length_map]
              have : HT.sIx gs.length 0 (some (-1)) = gs.length - 1 := by
                unfold HT.sIx
                simp
                omega
              rw [this, ← List.map_drop, ← List.map_take]
              congr 1
              rw [List.take_of_length_le]
              rw [List.length_drop]
              omega
            show [_, _, SD.d (.list (Hc.cutD (gs.map pr) (some (-1)) none)), _, _] = _
            rw [e]
          · have h1 : ¬ gs.length % 2 = 1 := by
              have := of_decide_eq_false h
              omega
            walk_at "evs"
            refine ⟨?_, rfl⟩
            show [_, _, SD.d (.list []), _, _] = _
            unfold aloneL
            rw [if_neg h1]
            rfl
        · rintro ds' ms1 ⟨rfl, rfl⟩
          walk_at "evs"
          refine e_lcZL (js := [3, 4]) (by simp) ?_
          refine ea_cons (e_step (e_var rfl ⟨_, .d _, ea_cons (e_step (e_var rfl ⟨_, .d _, ea_nil ?_⟩))⟩))
          rw [← List.map_drop, ev2_map, ← List.map_drop, ev2_map]
          have l0 := ev2_len gs
          have l1 := ev2_len (gs.drop 1)
          rw [List.length_drop] at l1
          have hx : 1 ≤ 2 ^ j := Nat.one_le_two_pow
          have hgl : gs.length ≤ 200 := by
            have : (gs.length - 1) * 1 ≤ (gs.length - 1) * 2 ^ j := Nat.mul_le_mul_left _ hx
            omega
          rw [List.drop_zero]
          have mem2 : ∀ {l : List (Int × Int)} {x : Int × Int}, x ∈ ev2 l → x ∈ l := fun {l} => by
            induction l using ev2.induct with
            | case1 => intro x h; simpa [ev2] using h
            | case2 a => intro x h; simpa [ev2] using h
            | case3 a b r ih =>
              intro x h
              rw [ev2] at h
              rcases List.mem_cons.mp h with rfl | h
              · simp
              · simp [ih h]
          refine ⟨_, _, _, _, rfl, .d _, .d _, by rw [List.length_map, ev2_len]; omega, fun k acc ms' => acc = ((List.zipWith pl (ev2 gs) (ev2 (gs.drop 1))).take k).map pr ∧ ms' = ms1, ⟨rfl, rfl⟩, ?_, ?_⟩
          · rintro k e f acc ms' he hf ⟨rfl, rfl⟩
            rw [List.getElem?_map] at he hf
            cases q1 : (ev2 gs)[k]? with
            | none => rw [q1] at he; cases he
            | some p =>
              cases q2 : (ev2 (gs.drop 1))[k]? with
              | none => rw [q2] at hf; cases hf
              | some q =>
                rw [q1] at he
                rw [q2] at hf
                have e1 := (Option.some.inj he).symm
                have e2 := (Option.some.inj hf).symm
                subst e1 e2
                have lp := hg p (mem2 (List.mem_of_getElem? q1))
                have lq := hg q (List.mem_of_mem_drop (mem2 (List.mem_of_getElem? q2)))
                refine eg_tup rfl (egs_cons (eg_name (egs_cons (eg_name (egs_nil ?_)))))
                walk_at "evs"
                refine ⟨fun _ => ?_, nofun⟩
                walk_at "evs"
                refine ⟨_, _, rfl, p, q, rfl, rfl, ⟨by have := lp.lo.pos; omega, by have := lq.lo.pos; omega, lp.b1.mono (by omega), lp.b2.mono (by omega), lq.b1.mono (by omega), lq.b2.mono (by omega)⟩, ?_⟩
                refine ⟨_, rfl, ?_, rfl⟩
                have hz : (List.zipWith pl (ev2 gs) (ev2 (gs.drop 1)))[k]? = some (pl p q) := by
                  rw [List.getElem?_zipWith, q1, q2]
                rw [take_snoc hz, List.map_append]
                rfl
          · rintro acc ms' ⟨rfl, rfl⟩
            walk_at "evs"
            refine rr_cat ⟨_, _, rfl, rfl, ?_, ?_⟩
            · simp only [List.length_map, List.length_take, List.length_zipWith]
              have : (aloneL gs).length ≤ 200 := by
                unfold aloneL
                split
                · rw [List.length_drop]; omega
                · simp
              omega
            · rw [← List.map_append, List.length_map, List.length_map, List.take_of_length_le (by rw [List.length_zipWith]; omega), halve_is]
              have hh := halve_len gs
              refine ⟨(halve gs).length, by omega, halve gs, j + 1, _, _, _, rfl, rfl, rfl, halve_lp gs hg, by rw [halve_sum gs fun g h => (hg g h).lo]; exact hs, ?_, fun z => ?_⟩
              · rw [hh, Nat.pow_succ]
                have : ((gs.length + 1) / 2 - 1) * (2 ^ j * 2) ≤ (gs.length - 1) * 2 ^ j := by
                  have e2 : ((gs.length + 1) / 2 - 1) * (2 ^ j * 2) = (((gs.length + 1) / 2 - 1) * 2) * 2 ^ j := by
                    rw [Nat.mul_comm (2 ^ j) 2, Nat.mul_assoc]
                  rw [e2]
                  exact Nat.mul_le_mul_right _ (by omega)
                omega
              · rw [z] at hh
                simp at hh
                omega
      · walk_at "evs"
        have h1 : gs.length ≤ 1 := by
          rw [List.length_map] at h
          have := of_decide_eq_false h
          omega
        refine ⟨gs, o1, o2, o3, rfl, rfl, ?_⟩
        match gs, h1, hg, hs, hn with
        | [], _, _, _, hn => exact .inl ⟨rfl, hn rfl⟩
        | [g], _, hg, hs, _ =>
          refine .inr ?_
          have hz := sumF_lo fs fun f hf => by have := (hw f hf).lo.pos; omega
          have : g = sumF fs := by
            refine Lo.eq (hg g (by simp)).lo hz.1 ?_
            rw [hz.2, ← hs]
            show _ = val g + 0
            grind
          rw [this]
  · rintro ds' ms' ⟨g, o1, o2, o3, rfl, rfl, hg⟩
    walk_at "evs"
    refine et_tru (e_var rfl ⟨_, .inl (.d _), ?_⟩)
    rcases hg with ⟨rfl, rfl⟩ | rfl
    · refine ⟨nofun, fun _ => ?_⟩
      walk_at "evs"
      exact r
    · refine ⟨fun _ => ?_, nofun⟩
      walk_at "evs"
      exact r

def szF (p : Int × Int) : Int × Int := ((p.1.natAbs : Int), p.2)
def Φ_size_of : Ph := ph2 fun a b ms R => ∃ (m : Nat) (ts : List Tie) (i : Nat), a = .d (encW m ts) ∧ b = .d (.int i) ∧ i < ts.length ∧ R (.d (pr (szF (ts.getD i tie0).2.2))) ms
theorem len_size_of : ∀ as ms R, Φ_size_of as ms R → as.length = 2 := ph2_len
theorem rd_size_of {K : PySem.W.Frag} : ∀ as ms R, Φ_size_of as ms R → S K (t_size_of K) (as ++ List.replicate (4 - as.length) .u) ms (fin R) := by
  rintro as ms R ⟨a, b, rfl, m, ts, i, rfl, rfl, hi, r⟩
  unfold t_size_of
  walk_at "evs"
  refine s_asgG (js := [2, 3]) ?_
  walk_at "evs"
  refine rr_ix ⟨_, _, _, .inr (.d _), rfl, atI_nat (j := i) (tie_at hi), ?_⟩
  walk_at "evs"
  refine eg_tup rfl (egs_cons (eg_name (egs_cons (eg_name (egs_nil ?_)))))
  walk_at "evs"
  rw [abs_nat]
  exact r

def Φ_is_gainful : Ph := ph2 fun a b ms R => ∃ (m : Nat) (ts : List Tie) (i : Nat), a = .d (encW m ts) ∧ b = .d (.int i) ∧ i < ts.length ∧ R (.d (.bool (gainB (ts.getD i tie0)))) ms
theorem len_is_gainful : ∀ as ms R, Φ_is_gainful as ms R → as.length = 2 := ph2_len
theorem rd_is_gainful {K : PySem.W.Frag} : ∀ as ms R, Φ_is_gainful as ms R → S K (t_is_gainful K) (as ++ List.replicate (2 - as.length) .u) ms (fin R) := by
  rintro as ms R ⟨a, b, rfl, m, ts, i, rfl, rfl, hi, r⟩
  unfold t_is_gainful
  walk_at "evs"
  refine rr_ix ⟨_, _, _, .inr (.d _), rfl, atI_nat (j := i) (tie_at hi), ?_⟩
  walk_at "evs"
  exact r

def Φ_top_of : Ph := ph1 fun a ms R => ∃ (m : Nat) (ts : List Tie), a = .d (encW m ts) ∧ WebOk m ts ∧ R (.d (pr (sumF ((ts.filter gainB).map (·.2.2))))) ms
theorem len_top_of : ∀ as ms R, Φ_top_of as ms R → as.length = 1 := ph1_len
theorem rd_top_of {K : PySem.W.Frag} : ∀ as ms R, Φ_top_of as ms R → S K (t_top_of K Φ_added) (as ++ List.replicate (4 - as.length) .u) ms (fin R) := by
  rintro as ms R ⟨a, rfl, m, ts, rfl, hw, r⟩
  unfold t_top_of
  walk_at "evs"
  refine e_lcT (js := [1, 2, 3]) (by simp) ?_
  walk_at "evs"
  refine ⟨by rw [List.length_map]; have := hw.len; omega, fun k acc ms' => acc = (((ts.take k).filter gainB).map (·.2.2)).map pr ∧ ms' = ms, ⟨rfl, rfl⟩, ?_, ?_⟩
  · rintro k e acc ms' hk ⟨rfl, rfl⟩
    rw [List.getElem?_map] at hk
    cases q : ts[k]? with
    | none => rw [q] at hk; cases hk
    | some t =>
      rw [q] at hk
      have e1 := (Option.some.inj hk).symm
      subst e1
      refine eg_tup rfl (egs_cons (eg_name (egs_cons (eg_name (egs_cons (eg_name (egs_nil ?_)))))))
      walk_at "evs"
      refine ⟨fun h => ?_, fun h => ?_⟩
      · walk_at "evs"
        refine ⟨?_, rfl⟩
        rw [take_snoc q, List.filter_append, List.filter_cons, if_pos (show gainB t = true from h)]
        simp
      · refine ⟨?_, rfl⟩
        rw [take_snoc q, List.filter_append, List.filter_cons, if_neg (by rw [show gainB t = false from h]; decide)]
        simp
  · rintro acc ms' ⟨rfl, rfl⟩
    walk_at "evs"
    rw [List.length_map, List.take_length]
    refine ⟨_, rfl, _, rfl, ?_, ?_, r⟩
    · rw [List.length_map]
      have := List.length_filter_le gainB ts
      have := hw.len
      omega
    · intro f hf
      obtain ⟨t, ht, rfl⟩ := List.mem_map.mp hf
      exact (hw.all t (List.mem_filter.mp ht).1).w

def Φ_is_cut : Ph := ph3 fun a b c ms R => ∃ (m : Nat) (ts : List Tie) (sd : List Int) (i : Nat), a = .d (encW m ts) ∧ b = .d (encS sd) ∧ c = .d (.int i) ∧ i < ts.length ∧ WebOk m ts ∧ sd.length = m ∧ R (.d (.bool (cutB sd (ts.getD i tie0)))) ms
theorem len_is_cut : ∀ as ms R, Φ_is_cut as ms R → as.length = 3 := ph3_len
theorem rd_is_cut {K : PySem.W.Frag} : ∀ as ms R, Φ_is_cut as ms R → S K (t_is_cut K) (as ++ List.replicate (6 - as.length) .u) ms (fin R) := by
  rintro as ms R ⟨a, b, c, rfl, m, ts, sd, i, rfl, rfl, rfl, hi, hw, hs, r⟩
  have ok := hw.all _ (getD_mem hi)
  unfold t_is_cut
  walk_at "evs"
  refine s_asgG (js := [3, 4, 5]) ?_
  walk_at "evs"
  refine rr_ix ⟨_, _, _, .inr (.d _), rfl, atI_nat (j := i) (tie_at hi), ?_⟩
  walk_at "evs"
  refine eg_tup rfl (egs_cons (eg_name (egs_cons (eg_name (egs_cons (eg_name (egs_nil ?_)))))))
  walk_at "evs"
  refine rr_ix ⟨_, _, _, .inr (.d _), rfl, atI_nat (j := (ts.getD i tie0).1) (side_at (by have := ok.lt; have := ok.lm; omega)), ?_⟩
  walk_at "evs"
  refine rr_ix ⟨_, _, _, .inr (.d _), rfl, atI_nat (j := (ts.getD i tie0).2.1) (side_at (by have := ok.lm; omega)), ?_⟩
  refine rr_ne ⟨_, _, .d _, .d _, shaped_int _, shaped_int _, ?_⟩
  rw [eqv_int]
  exact r

def Φ_cut_ties : Ph := ph2 fun a b ms R => ∃ (m : Nat) (ts : List Tie) (sd : List Int), a = .d (encW m ts) ∧ b = .d (encS sd) ∧ WebOk m ts ∧ sd.length = m ∧ R (.d (.tuple (encN (nums (cutB sd) ts ts.length)))) ms
theorem len_cut_ties : ∀ as ms R, Φ_cut_ties as ms R → as.length = 2 := ph2_len
theorem rd_cut_ties {K : PySem.W.Frag} : ∀ as ms R, Φ_cut_ties as ms R → S K (t_cut_ties K Φ_is_cut) (as ++ List.replicate (3 - as.length) .u) ms (fin R) := by
  rintro as ms R ⟨a, b, rfl, m, ts, sd, rfl, rfl, hw, hs, r⟩
  unfold t_cut_ties
  walk_at "evs"
  refine e_lcR (js := [2]) (by simp) ?_
  walk_at "evs"
  refine rc_len ⟨_, _, rfl, .inr (.d _), ?_⟩
  walk_at "evs"
  have hl := hw.len
  rw [List.length_map]
  refine ⟨⟨by omega, by omega⟩, fun k acc ms' => acc = encN (nums (cutB sd) ts k) ∧ ms' = ms, ⟨rfl, rfl⟩, ?_, ?_⟩
  · rintro k acc ms' hk ⟨rfl, rfl⟩
    refine eg_name ?_
    walk_at "evs"
    refine ⟨_, _, _, rfl, m, ts, sd, k, rfl, rfl, rfl, by simpa using hk, hw, hs, ?_⟩
    walk_at "evs"
    refine ⟨fun h => ?_, fun h => ?_⟩
    · walk_at "evs"
      exact ⟨by rw [nums_yes h]; simp, rfl⟩
    · exact ⟨by rw [nums_no h], rfl⟩
  · rintro acc ms' ⟨rfl, rfl⟩
    walk_at "evs"
    refine rc_tuple ⟨_, _, rfl, .inl (.d _), ?_⟩
    exact r

def Φ_lost_ties : Ph := ph2 fun a b ms R => ∃ (m : Nat) (ts : List Tie) (sd : List Int), a = .d (encW m ts) ∧ b = .d (encS sd) ∧ WebOk m ts ∧ sd.length = m ∧ R (.d (.tuple (encN (nums (lostB sd) ts ts.length)))) ms
theorem len_lost_ties : ∀ as ms R, Φ_lost_ties as ms R → as.length = 2 := ph2_len
theorem rd_lost_ties {K : PySem.W.Frag} : ∀ as ms R, Φ_lost_ties as ms R → S K (t_lost_ties K Φ_is_cut Φ_is_gainful) (as ++ List.replicate (3 - as.length) .u) ms (fin R) := by
  rintro as ms R ⟨a, b, rfl, m, ts, sd, rfl, rfl, hw, hs, r⟩
  unfold t_lost_ties
  walk_at "evs"
  refine e_lcR (js := [2]) (by simp) ?_
  walk_at "evs"
  refine rc_len ⟨_, _, rfl, .inr (.d _), ?_⟩
  walk_at "evs"
  have hl := hw.len
  rw [List.length_map]
  refine ⟨⟨by omega, by omega⟩, fun k acc ms' => acc = encN (nums (lostB sd) ts k) ∧ ms' = ms, ⟨rfl, rfl⟩, ?_, ?_⟩
  · rintro k acc ms' hk ⟨rfl, rfl⟩
    refine eg_name ?_
    walk_at "evs"
    refine ⟨_, _, _, rfl, m, ts, sd, k, rfl, rfl, rfl, by simpa using hk, hw, hs, ?_⟩
    walk_at "evs"
    refine ⟨_, _, rfl, m, ts, k, rfl, rfl, by simpa using hk, ?_⟩
    refine rr_ne ⟨_, _, .d _, .d _, (Shp.bl _).ok (by decide), (Shp.bl _).ok (by decide), _, rfl, fun h => ?_, fun h => ?_⟩
    · rw [eqv_bl] at h
      walk_at "evs"
      exact ⟨by rw [nums_yes h]; simp, rfl⟩
    · rw [eqv_bl] at h
      exact ⟨by rw [nums_no h], rfl⟩
  · rintro acc ms' ⟨rfl, rfl⟩
    walk_at "evs"
    refine rc_tuple ⟨_, _, rfl, .inl (.d _), ?_⟩
    exact r

def Φ_weight_of : Ph := ph2 fun a b ms R => ∃ (m : Nat) (ts : List Tie) (sd : List Int), a = .d (encW m ts) ∧ b = .d (encS sd) ∧ WebOk m ts ∧ sd.length = m ∧ R (.d (pr (sumF ((ts.filter (cutB sd)).map (·.2.2))))) ms
theorem len_weight_of : ∀ as ms R, Φ_weight_of as ms R → as.length = 2 := ph2_len
theorem rd_weight_of {K : PySem.W.Frag} : ∀ as ms R, Φ_weight_of as ms R → S K (t_weight_of K Φ_added Φ_cut_ties) (as ++ List.replicate (3 - as.length) .u) ms (fin R) := by
  rintro as ms R ⟨a, b, rfl, m, ts, sd, rfl, rfl, hw, hs, r⟩
  have hl := hw.len
  have hn := nums_len (cutB sd) ts ts.length
  unfold t_weight_of
  walk_at "evs"
  refine e_lcT (js := [2]) (by simp) ?_
  walk_at "evs"
  refine ⟨_, _, rfl, m, ts, sd, rfl, rfl, hw, hs, ?_⟩
  refine ⟨_, rfl, by rw [List.length_map]; omega, fun k acc ms' => acc = (((nums (cutB sd) ts ts.length).take k).map fun i => pr (ts.getD i tie0).2.2) ∧ ms' = ms, ⟨rfl, rfl⟩, ?_, ?_⟩
  · rintro k e acc ms' hk ⟨rfl, rfl⟩
    rw [List.getElem?_map] at hk
    cases q : (nums (cutB sd) ts ts.length)[k]? with
    | none => rw [q] at hk; cases hk
    | some i =>
      rw [q] at hk
      have e1 := (Option.some.inj hk).symm
      subst e1
      have hi := nums_lt (List.mem_of_getElem? q)
      refine eg_name ?_
      walk_at "evs"
      refine ⟨fun _ => ?_, nofun⟩
      walk_at "evs"
      refine rr_ix ⟨_, _, _, .inr (.d _), rfl, atI_nat (j := i) (tie_at hi), ?_⟩
      walk_at "evs"
      exact ⟨by rw [take_snoc q]; simp, rfl⟩
  · rintro acc ms' ⟨rfl, rfl⟩
    walk_at "evs"
    rw [List.length_map, List.take_length]
    have e : (nums (cutB sd) ts ts.length).map (fun i => pr (ts.getD i tie0).2.2) = ((ts.filter (cutB sd)).map (·.2.2)).map pr := by
      rw [← nums_all]
      simp
    rw [e]
    refine ⟨_, rfl, _, rfl, ?_, ?_, r⟩
    · rw [List.length_map]
      have := List.length_filter_le (cutB sd) ts
      omega
    · intro f hf
      obtain ⟨t, ht, rfl⟩ := List.mem_map.mp hf
      exact (hw.all t (List.mem_filter.mp ht).1).w

def Φ__law_cell_at : Ph := ph2 fun a b ms R => ∃ (ns : List Int) (k : Nat), a = .s ns ∧ b = .d (.int k) ∧ ∀ v : Int, R (.d (.int v)) ms
theorem len__law_cell_at : ∀ as ms R, Φ__law_cell_at as ms R → as.length = 2 := ph2_len
theorem rd__law_cell_at {K : PySem.W.Frag} : ∀ as ms R, Φ__law_cell_at as ms R → S K (t__law_cell_at K) (as ++ List.replicate (2 - as.length) .u) ms (fin R) := by
  rintro as ms R ⟨a, b, rfl, ns, k, rfl, rfl, r⟩
  unfold t__law_cell_at
  walk_at "evs"
  refine rc_len ⟨_, _, rfl, .inl (.s ns), ?_⟩
  walk_at "evs"
  refine ⟨fun h => ?_, fun h => ?_⟩
  · walk_at "evs"
    have hk : k < ns.length := by simpa using h
    refine rr_ix ⟨_, _, .int ns[k], .inl (.s ns), rfl, atI_nat (j := k) (by rw [List.getElem?_map, List.getElem?_eq_getElem hk]; rfl), ?_⟩
    exact r _
  · walk_at "evs"
    exact r 0

def Φ__law_stream : Ph := ph2 fun a b ms R => ∃ (c : Int) (n : Nat), a = .d (.int c) ∧ b = .d (.int n) ∧ n ≤ 1000 ∧ ∀ ns : List Int, R (.f (ns.map .int)) ms
theorem len__law_stream : ∀ as ms R, Φ__law_stream as ms R → as.length = 2 := ph2_len
theorem rd__law_stream {K : PySem.W.Frag} : ∀ as ms R, Φ__law_stream as ms R → S K (t__law_stream K) (as ++ List.replicate (6 - as.length) .u) ms (fin R) := by
  rintro as ms R ⟨a, b, rfl, c, n, rfl, rfl, hn, r⟩
  unfold t__law_stream
  refine s_new ?_
  walk_at "evs"
  refine rr_I ⟨_, _, rfl, rfl, ⟨by decide, by decide, by decide⟩, ?_⟩
  walk_at "evs"
  refine ⟨fun h => ?_, fun h => ?_⟩
  · walk_at "evs"
    refine s_forR (js := [3]) ?_
    walk_at "evs"
    refine ⟨⟨by omega, by omega⟩, fun i ds' ms' => ∃ (c' : Int) (o : SD) (ns : List Int), ds' = [.d (.int c'), .d (.int n), .m ms.length, o, .u, .u] ∧ ms' = ms ++ [.l (ns.map .int)] ∧ ns.length = i, ⟨c, .u, [], rfl, rfl, rfl⟩, ?_, ?_⟩
    · rintro i ds' ms' hi ⟨c', o, ns, rfl, rfl, hl⟩
      refine eg_name ?_
      walk_at "evs"
      refine e_append ?_
      walk_at "evs"
      refine rr_I ⟨_, _, rfl, rfl, by decide, ?_⟩
      refine ⟨_, ns.map .int, rfl, by simp, by simp; omega, ?_⟩
      walk_at "evs"
      refine rr_I ⟨_, _, rfl, rfl, ⟨by decide, Bd.mono (Bd.of (n := 64) (by decide)) (by decide)⟩, ?_⟩
      exact ⟨_, _, ns ++ [c'.fmod 1000], rfl, by simp, by simp [hl]⟩
    · rintro ds' ms' ⟨c', o, ns, rfl, rfl, hl⟩
      walk_at "evs"
      refine e_rev ?_
      walk_at "evs"
      refine ⟨ns.map .int, .m (by simp), ms, ns.map .int, rfl, rfl, ?_⟩
      have := r ns.reverse
      rw [List.map_reverse] at this
      exact this
  · walk_at "evs"
    refine rr_I ⟨_, _, rfl, rfl, by decide, ?_⟩
    walk_at "evs"
    refine rr_I ⟨_, _, rfl, rfl, by decide, ?_⟩
    walk_at "evs"
    refine s_forR (js := [3]) ?_
    walk_at "evs"
    refine ⟨⟨by omega, by omega⟩, fun i ds' ms' => ∃ (x y : Int) (o : SD) (ns : List Int), ds' = [.d (.int c), .d (.int n), .m ms.length, o, .d (.int x), .d (.int y)] ∧ ms' = ms ++ [.l (ns.map .int)] ∧ ns.length = i, ⟨_, _, .u, [], rfl, rfl, rfl⟩, ?_, ?_⟩
    · rintro i ds' ms' hi ⟨x, y, o, ns, rfl, rfl, hl⟩
      refine eg_name ?_
      have hi2 : (i : Int) < 2 ^ 64 := by omega
      walk_at "evs"
      refine rr_I ⟨_, _, rfl, rfl, .inr ⟨by decide, by decide⟩, ?_⟩
      walk_at "evs"
      refine rr_I ⟨_, _, rfl, rfl, ⟨Bd.mono (Bd.of (n := 64) (by omega)) (by decide), Bd.mono (Bd.of (n := 64) (by omega)) (by decide)⟩, ?_⟩
      walk_at "evs"
      refine rr_I ⟨_, _, rfl, rfl, by decide, ?_⟩
      walk_at "evs"
      refine rr_I ⟨_, _, rfl, rfl, .inr ⟨by decide, by decide⟩, ?_⟩
      walk_at "evs"
      refine rr_I ⟨_, _, rfl, rfl, by decide, ?_⟩
      walk_at "evs"
      refine rr_I ⟨_, _, rfl, rfl, by decide, ?_⟩
      walk_at "evs"
      refine e_append ?_
      walk_at "evs"
      refine rr_I ⟨_, _, rfl, rfl, .inl ⟨by decide, by decide⟩, ?_⟩
      walk_at "evs"
      refine rr_I ⟨_, _, rfl, rfl, ⟨by decide, Bd.mono (Bd.of (n := 64) (by decide)) (by decide)⟩, ?_⟩
      refine ⟨_, ns.map .int, rfl, by simp, by simp; omega, ?_⟩
      exact ⟨_, _, _, ns ++ [_], rfl, by simp; rfl, by simp [hl]⟩
    · rintro ds' ms' ⟨x, y, o, ns, rfl, rfl, hl⟩
      walk_at "evs"
      refine ⟨ms, ns.map .int, rfl, rfl, ?_⟩
      show R (if ms.length = ms.length then _ else _) ms
      rw [if_pos rfl]
      exact r ns

def Φ__law_next : Ph := ph2 fun a b ms R => ∃ (k : Nat) (ns : List Int) (m : Int), a = .m k ∧ b = .d (.int m) ∧ 0 < m ∧ ms[k]? = some (.l (ns.map .int)) ∧ ∀ (v : Int) (ns' : List Int), 0 ≤ v → v < m → R (.d (.int v)) (ms.set k (.l (ns'.map .int)))
theorem len__law_next : ∀ as ms R, Φ__law_next as ms R → as.length = 2 := ph2_len
theorem set_same {α : Type} : ∀ (l : List α) (k : Nat) (x : α), l[k]? = some x → l.set k x = l
  | [], k, x, h => by simp at h
  | a :: r, 0, x, h => by simp at h; simp [h]
  | a :: r, k + 1, x, h => by simp at h; simp [set_same r k x h]
theorem shaped_ints (ns : List Int) : SeqAt.shaped (.list (ns.map .int)) = true := by
  have h : ∀ ns : List Int, PyData.canLayAll0 (ns.map .int) = true := fun ns => by
    induction ns with
    | nil => rfl
    | cons a r ih => simp [PyData.canLayAll0, PyData.canLay0, ih]
  have d : ∀ ns : List Int, PyData.depthAll (ns.map .int) ≤ 1 := fun ns => by
    induction ns with
    | nil => simp [PyData.depthAll]
    | cons a r ih => simp [PyData.depthAll, PyData.depth]; omega
  have := d ns
  simp [SeqAt.shaped, PyData.canLay0, PyData.depth, h ns]
  omega
theorem rd__law_next {K : PySem.W.Frag} : ∀ as ms R, Φ__law_next as ms R → S K (t__law_next K) (as ++ List.replicate (2 - as.length) .u) ms (fin R) := by
  rintro as ms R ⟨a, b, rfl, k, ns, m, rfl, rfl, hm, hk, r⟩
  unfold t__law_next
  walk_at "evs"
  refine rr_eq ⟨_, _, .m hk, .d _, shaped_ints ns, shaped_ints [], _, rfl, fun h => ?_, fun h => ?_⟩
  · walk_at "evs"
    have := r 0 ns (by omega) (by omega)
    rw [set_same _ _ _ hk] at this
    exact this
  · have hn : ns ≠ [] := by
      intro z
      subst z
      simp [PyData.eqv, PyData.eqvAll] at h
    obtain ⟨ps, v, rfl⟩ : ∃ ps v, ns = ps ++ [v] := ⟨ns.dropLast, ns.getLast hn, (List.dropLast_concat_getLast hn).symm⟩
    walk_at "evs"
    refine e_pop ?_
    walk_at "evs"
    refine ⟨k, ps.map .int, .int v, rfl, by rw [hk]; simp, ?_⟩
    walk_at "evs"
    refine rr_I ⟨_, _, rfl, rfl, by omega, ?_⟩
    rw [Int.fmod_eq_emod_of_nonneg _ (by omega)]
    exact r _ ps (Int.emod_nonneg _ (by omega)) (Int.emod_lt_of_pos _ hm)

def Φ__law_divisor : Ph := ph2 fun a b ms R => ∃ i j, a = .d (.int i) ∧ b = .d (.int j) ∧ R (.d (.int (Int.gcd i j))) ms
theorem len__law_divisor : ∀ as ms R, Φ__law_divisor as ms R → as.length = 2 := ph2_len
theorem rd__law_divisor {K : PySem.W.Frag} : ∀ as ms R, Φ__law_divisor as ms R → S K (t__law_divisor K) (as ++ List.replicate (2 - as.length) .u) ms (fin R) := by
  rintro as ms R ⟨a, b, rfl, i, j, rfl, rfl, r⟩
  unfold t__law_divisor
  walk_at "evs"
  rw [abs_nat, abs_nat]
  refine s_while (fun m ds ms' => ∃ x y : Nat, ds = [.d (.int x), .d (.int y)] ∧ ms' = ms ∧ Nat.gcd x y = Int.gcd i j ∧ m = y) j.natAbs ⟨i.natAbs, j.natAbs, rfl, rfl, rfl, rfl⟩ ?_
  rintro m ds ms' ⟨x, y, rfl, rfl, hg, hm⟩
  walk_at "evs"
  refine ⟨fun h => ?_, fun h => ?_⟩
  · walk_at "evs"
    have hy : y ≠ 0 := by
      intro z
      subst z
      simp at h
    refine rr_I ⟨_, _, rfl, rfl, by omega, ?_⟩
    walk_at "evs"
    rw [fmod_nat]
    exact ⟨x % y, by rw [hm]; exact Nat.mod_lt _ (by omega), y, x % y, rfl, rfl, by rw [gcd_step]; exact hg, rfl⟩
  · walk_at "evs"
    have hy : y = 0 := by
      simp at h
      omega
    subst hy
    rw [Nat.gcd_zero_right] at hg
    rw [hg]
    exact r

def Φ__law_fraction : Ph := ph2 fun a b ms R => ∃ i j, a = .d (.int i) ∧ b = .d (.int j) ∧ j ≠ 0 ∧ Bd 8000 j ∧ R (.d (pr (fr i j))) ms
theorem len__law_fraction : ∀ as ms R, Φ__law_fraction as ms R → as.length = 2 := ph2_len
theorem rd__law_fraction {K : PySem.W.Frag} : ∀ as ms R, Φ__law_fraction as ms R → S K (t__law_fraction K Φ__law_divisor) (as ++ List.replicate (3 - as.length) .u) ms (fin R) := by
  rintro as ms R ⟨a, b, rfl, i, j, rfl, rfl, hj, hb, r⟩
  have hg : 0 < Int.gcd i j := Int.gcd_pos_of_ne_zero_right i hj
  have hgb : Bd 8000 (Int.gcd i j : Int) := hb.le (by
    have := Int.gcd_le_natAbs_right i hj
    omega)
  have hgn : Bd 8000 (0 - (Int.gcd i j : Int)) := by rw [Int.zero_sub]; exact hgb.neg
  unfold t__law_fraction
  walk_at "evs"
  refine ⟨_, _, rfl, i, j, rfl, rfl, ?_⟩
  walk_at "evs"
  refine ⟨fun h => ?_, fun h => ?_⟩
  · walk_at "evs"
    refine rr_I ⟨_, _, rfl, rfl, ⟨by omega, hgn⟩, ?_⟩
    walk_at "evs"
    refine rr_I ⟨_, _, rfl, rfl, ⟨by omega, hgn⟩, ?_⟩
    walk_at "evs"
    have e : fr i j = (i.fdiv (0 - (Int.gcd i j : Int)), j.fdiv (0 - (Int.gcd i j : Int))) := by
      rw [Int.zero_sub]
      exact if_pos (by simpa using h)
    rw [e] at r
    exact r
  · walk_at "evs"
    refine rr_I ⟨_, _, rfl, rfl, ⟨by omega, hgb⟩, ?_⟩
    walk_at "evs"
    refine rr_I ⟨_, _, rfl, rfl, ⟨by omega, hgb⟩, ?_⟩
    walk_at "evs"
    have e : fr i j = (i.fdiv (Int.gcd i j), j.fdiv (Int.gcd i j)) := if_neg (by simpa using h)
    rw [e] at r
    exact r

def Φ__law_weight : Ph := ph2 fun a b ms R => ∃ (k : Nat) (ns : List Int) (m : Int), a = .m k ∧ b = .d (.int m) ∧ ms[k]? = some (.l (ns.map .int)) ∧ ∀ (w : Int × Int) (ns' : List Int), Wt w → w.1.natAbs ≤ 1000000000 → w.2 ≤ 1000 → R (.d (pr w)) (ms.set k (.l (ns'.map .int)))
theorem len__law_weight : ∀ as ms R, Φ__law_weight as ms R → as.length = 2 := ph2_len
theorem rd__law_weight {K : PySem.W.Frag} : ∀ as ms R, Φ__law_weight as ms R → S K (t__law_weight K Φ__law_next Φ__law_fraction) (as ++ List.replicate (4 - as.length) .u) ms (fin R) := by
  rintro as ms R ⟨a, b, rfl, k, ns, m, rfl, rfl, hk, r⟩
  have hkl : k < ms.length := (List.getElem?_eq_some_iff.mp hk).1
  unfold t__law_weight
  walk_at "evs"
  refine ⟨_, _, rfl, k, ns, _, rfl, rfl, by decide, hk, fun v ns1 v0 v1 => ?_⟩
  refine e_int (rr_I0 ⟨_, _, rfl, rfl, ?_⟩)
  refine s_mid (fun ds' ms' => ∃ n : Int, ds' = [.m k, .d (.int m), .d (.int n), .u] ∧ ms' = ms.set k (.l (ns1.map .int)) ∧ ((m = 0 ∧ 1 ≤ n ∧ n ≤ 5) ∨ (-4 ≤ n ∧ n ≤ 4))) ?_ ?_
  · walk_at "evs"
    refine rr_eq ⟨_, _, .d _, .d _, shaped_int _, shaped_int _, _, rfl, fun h0 => ?_, fun h0 => ?_⟩
    · rw [eqv_int] at h0
      refine s_asg ?_
      refine e_op (e_cb (ea_cons (e_var rfl (ea_nil (rc_abs ⟨_, rfl, e_int (rr_I0 ⟨_, _, rfl, rfl, ?_⟩)⟩)))))
      rw [abs_nat]
      exact ⟨_, rfl, rfl, .inl ⟨by simpa using h0, by omega, by omega⟩⟩
    · refine s_next ?_
      exact ⟨_, rfl, rfl, .inr ⟨by omega, by omega⟩⟩
  rintro ds' ms' ⟨n, rfl, rfl, hn⟩
  refine s_mid (fun ds' ms' => ∃ n : Int, ds' = [.m k, .d (.int m), .d (.int n), .u] ∧ ms' = ms.set k (.l (ns1.map .int)) ∧ (-4 ≤ n ∧ n ≤ 5 ∧ (2 < m → n ≤ 4))) ?_ ?_
  · walk_at "evs"
    refine rr_eq ⟨_, _, .d _, .d _, shaped_int _, shaped_int _, _, rfl, fun h0 => ?_, fun h0 => ?_⟩
    · rw [eqv_int] at h0
      have h1 : m = 1 := by simpa using h0
      refine s_asg ?_
      refine e_op (e_int (e_cb (ea_cons (e_var rfl (ea_nil (rc_abs ⟨_, rfl, rr_I0 ⟨_, _, rfl, rfl, ?_⟩⟩))))))
      rw [abs_nat]
      exact ⟨_, rfl, rfl, by omega, by omega, by omega⟩
    · refine s_next ?_
      exact ⟨_, rfl, rfl, by omega, by omega, by omega⟩
  rintro ds' ms' ⟨n, rfl, rfl, hn⟩
  refine s_mid (fun ds' ms' => ∃ n : Int, ds' = [.m k, .d (.int m), .d (.int n), .u] ∧ ms' = ms.set k (.l (ns1.map .int)) ∧ (-4 ≤ n ∧ n ≤ 5 ∧ (2 < m → n ≤ 4))) ?_ ?_
  · walk_at "evs"
    refine rr_eq ⟨_, _, .d _, .d _, shaped_int _, shaped_int _, _, rfl, fun h0 => ?_, fun h0 => ?_⟩
    · refine s_asg (e_int ?_)
      exact ⟨_, rfl, rfl, by decide, by decide, fun _ => by decide⟩
    · refine s_next ?_
      exact ⟨_, rfl, rfl, hn⟩
  rintro ds' ms' ⟨n, rfl, rfl, n0, n1, n2⟩
  walk_at "evs"
  refine ⟨[_, _, _, _, _, _, _], rfl, Nat.le_of_ble_eq_true rfl, ?_⟩
  walk_at "evs"
  refine ⟨_, _, rfl, k, ns1, _, rfl, rfl, by decide, by rw [List.getElem?_set_self hkl], fun j ns2 j0 j1 => ?_⟩
  rw [List.set_set]
  obtain ⟨bt, hb, b1, b2⟩ : ∃ bt : Int, atI [PyData.int 1, .int 1, .int 1, .int 2, .int 3, .int 7, .int 1000] j = some (.int bt) ∧ 1 ≤ bt ∧ bt ≤ 1000 := by
    have : j = 0 ∨ j = 1 ∨ j = 2 ∨ j = 3 ∨ j = 4 ∨ j = 5 ∨ j = 6 := by omega
    rcases this with rfl | rfl | rfl | rfl | rfl | rfl | rfl
    · exact ⟨1, rfl, by decide, by decide⟩
    · exact ⟨1, rfl, by decide, by decide⟩
    · exact ⟨1, rfl, by decide, by decide⟩
    · exact ⟨2, rfl, by decide, by decide⟩
    · exact ⟨3, rfl, by decide, by decide⟩
    · exact ⟨7, rfl, by decide, by decide⟩
    · exact ⟨1000, rfl, by decide, by decide⟩
  have fin1 : ∀ (t : Int) (ns3 : List Int), t.natAbs ≤ 1000000000 → R (.d (pr (fr t bt))) (ms.set k (.l (ns3.map .int))) := fun t ns3 ht => by
    have hbt : bt ≠ 0 := by omega
    have le := fr_le (i := t) hbt
    have pos := fr_pos (i := t) hbt
    exact r _ ns3 ⟨Lo.fr hbt, Bd.of (by omega), Bd.of (by omega)⟩ (by omega) (by omega)
  refine rr_ix ⟨_, _, _, .inl (.d _), rfl, hb, ?_⟩
  walk_at "evs"
  refine ⟨_, _, rfl, k, ns2, _, rfl, rfl, by decide, by rw [List.getElem?_set_self hkl], fun z ns3 z0 z1 => ?_⟩
  rw [List.set_set]
  walk_at "evs"
  refine rr_eq ⟨_, _, .d _, .d _, shaped_int _, shaped_int _, _, rfl, fun _ => ?_, fun _ => ?_⟩
  · walk_at "evs"
    refine ⟨fun hm => ?_, fun _ => ?_⟩
    · have n4 : n ≤ 4 := n2 (by simpa using hm)
      walk_at "evs"
      refine rr_I ⟨_, _, rfl, rfl, .inr ⟨by decide, by decide⟩, ?_⟩
      walk_at "evs"
      exact ⟨_, _, rfl, _, _, rfl, rfl, by omega, (Bd.of (n := 10) (by omega)).mono (by decide), fin1 _ ns3 (by omega)⟩
    · walk_at "evs"
      exact ⟨_, _, rfl, _, _, rfl, rfl, by omega, (Bd.of (n := 10) (by omega)).mono (by decide), fin1 _ ns3 (by omega)⟩
  · refine ⟨nofun, fun _ => ?_⟩
    walk_at "evs"
    exact ⟨_, _, rfl, _, _, rfl, rfl, by omega, (Bd.of (n := 10) (by omega)).mono (by decide), fin1 _ ns3 (by omega)⟩

def Rise (ts : List Tie) : Prop := ts.Pairwise fun a b => a.1 < b.1 ∨ (a.1 = b.1 ∧ a.2.1 < b.2.1)
def Sm (t : Tie) : Prop := t.2.2.1.natAbs ≤ 1000000000 ∧ t.2.2.2 ≤ 1000
def Φ__law_web : Ph := ph3 fun a b c ms R => ∃ (k : Nat) (ns : List Int) (lo hi : Nat), a = .m k ∧ b = .d (.int lo) ∧ c = .d (.int hi) ∧ ms[k]? = some (.l (ns.map .int)) ∧ 1 ≤ lo ∧ lo ≤ hi ∧ hi ≤ 9 ∧
  ∀ (m : Nat) (ts : List Tie) (ns' : List Int), lo ≤ m → m ≤ hi → WebOk m ts → Rise ts → (∀ t ∈ ts, Sm t) → ts.length ≤ 81 → R (.d (encW m ts)) (ms.set k (.l (ns'.map .int)))
theorem len__law_web : ∀ as ms R, Φ__law_web as ms R → as.length = 3 := ph3_len
theorem rise_snoc {ts : List Tie} {t : Tie} (h : Rise ts) (h2 : ∀ x ∈ ts, x.1 < t.1 ∨ (x.1 = t.1 ∧ x.2.1 < t.2.1)) : Rise (ts ++ [t]) :=
  List.pairwise_append.mpr ⟨h, by simp, fun a ha b hb => by simp at hb; subst hb; exact h2 a ha⟩
theorem rd__law_web {K : PySem.W.Frag} : ∀ as ms R, Φ__law_web as ms R → S K (t__law_web K Φ__law_next Φ__law_weight) (as ++ List.replicate (9 - as.length) .u) ms (fin R) := by
  rintro as ms R ⟨a, b, c, rfl, k, ns, lo, hi, rfl, rfl, rfl, hk, h1, h2, h3, r⟩
  have hkl : k < ms.length := (List.getElem?_eq_some_iff.mp hk).1
  unfold t__law_web
  walk_at "evs"
  refine ⟨_, _, rfl, k, ns, _, rfl, rfl, by omega, hk, fun v ns1 v0 v1 => ?_⟩
  walk_at "evs"
  obtain ⟨m, hm⟩ : ∃ m : Nat, (lo : Int) + v = m := ⟨((lo : Int) + v).toNat, by omega⟩
  rw [hm]
  refine ⟨_, _, rfl, k, ns1, _, rfl, rfl, by decide, by rw [List.getElem?_set_self hkl], fun man ns2 a0 a1 => ?_⟩
  rw [List.set_set]
  walk_at "evs"
  refine ⟨_, _, rfl, k, ns2, _, rfl, rfl, by decide, by rw [List.getElem?_set_self hkl], fun thin ns3 b0 b1 => ?_⟩
  rw [List.set_set]
  refine s_new ?_
  walk_at "evs"
  refine s_forR (js := [7]) ?_
  walk_at "evs"
  have hm9 : m ≤ 9 := by omega
  have hl : (ms.set k (.l (ns3.map .int))).length = ms.length := List.length_set
  rw [hl]
  refine ⟨⟨by omega, by omega⟩, fun i ds' ms' => ∃ (ts : List Tie) (ns4 : List Int) (o o2 : SD), ds' = [.m k, .d (.int lo), .d (.int hi), .d (.int m), .d (.int man), .d (.int thin), .m ms.length, o, o2] ∧ ms' = ms.set k (.l (ns4.map .int)) ++ [.l (ts.map encT)] ∧ (∀ t ∈ ts, TieOk m t ∧ Sm t ∧ t.1 < i) ∧ Rise ts ∧ ts.length ≤ 9 * i, ⟨[], ns3, .u, .u, rfl, rfl, by simp, List.Pairwise.nil, by simp⟩, ?_, ?_⟩
  · rintro i ds' ms' hi2 ⟨ts, ns4, o, o2, rfl, rfl, ht, hr, hz⟩
    have hi3 : i < m := by simpa using hi2
    refine eg_name ?_
    refine s_forR2 (js := [8]) ?_
    walk_at "evs"
    refine ⟨⟨by omega, by omega, by omega, by omega⟩, fun j ds' ms' => ∃ (ts : List Tie) (ns4 : List Int) (o2 : SD), ds' = [.m k, .d (.int lo), .d (.int hi), .d (.int m), .d (.int man), .d (.int thin), .m ms.length, .d (.int i), o2] ∧ ms' = ms.set k (.l (ns4.map .int)) ++ [.l (ts.map encT)] ∧ (∀ t ∈ ts, TieOk m t ∧ Sm t ∧ (t.1 < i ∨ (t.1 = i ∧ t.2.1 < i + 1 + j))) ∧ Rise ts ∧ ts.length ≤ 9 * i + j, ⟨ts, ns4, o2, rfl, rfl, fun t h => ⟨(ht t h).1, (ht t h).2.1, .inl (ht t h).2.2⟩, hr, by omega⟩, ?_, ?_⟩
    · rintro j ds' ms' hj ⟨ts, ns5, o3, rfl, rfl, ht, hr, hz⟩
      have hj2 : i + 1 + j < m := by omega
      have hkl2 : ∀ x : MD, k < (ms.set k x).length := fun x => by rw [List.length_set]; exact hkl
      refine eg_name ?_
      walk_at "evs"
      refine ⟨_, _, rfl, k, ns5, _, rfl, rfl, by decide, by rw [List.getElem?_append_left (hkl2 _), List.getElem?_set_self hkl], fun z ns6 z0 z1 => ?_⟩
      rw [List.set_append_left _ _ (hkl2 _), List.set_set]
      walk_at "evs"
      refine ⟨fun _ => ?_, fun _ => ?_⟩
      · walk_at "evs"
        refine e_append ?_
        walk_at "evs"
        refine ⟨_, _, rfl, k, ns6, _, rfl, rfl, by rw [List.getElem?_append_left (hkl2 _), List.getElem?_set_self hkl], fun w ns7 ww w1 w2 => ?_⟩
        rw [List.set_append_left _ _ (hkl2 _), List.set_set]
        walk_at "evs"
        have ln : (ms.set k (.l (ns7.map PyData.int))).length = ms.length := List.length_set
        refine ⟨(show _ = some (MD.l (ts.map encT)) by rw [List.getElem?_append_right (by omega), ln, Nat.sub_self]; rfl), by rw [List.length_map]; omega, ?_⟩
        have hp := ww.lo.pos
        refine ⟨ts ++ [(i, i + 1 + j, w)], ns7, _, rfl, ?_, ?_, ?_, ?_⟩
        · rw [List.set_append_right _ _ (by omega), ln, Nat.sub_self, List.map_append]
          have e : ((i : Int) + 1 + (j : Int)) = ((i + 1 + j : Nat) : Int) := by omega
          show _ ++ [MD.l _] = _
          rw [e]
          rfl
        · intro t h
          rcases List.mem_append.mp h with h | h
          · obtain ⟨h1, h2, h3⟩ := ht t h
            exact ⟨h1, h2, by omega⟩
          · simp at h
            subst h
            exact ⟨⟨by show i < i + 1 + j; omega, hj2, ww⟩, ⟨w1, w2⟩, .inr ⟨rfl, by show i + 1 + j < i + 1 + (j + 1); omega⟩⟩
        · exact rise_snoc hr fun x hx => (ht x hx).2.2
        · rw [List.length_append]
          show ts.length + 1 ≤ _
          omega
      · walk_at "evs"
        refine ⟨ts, ns6, _, rfl, rfl, fun t h => ?_, hr, by omega⟩
        obtain ⟨h1, h2, h3⟩ := ht t h
        exact ⟨h1, h2, by omega⟩
    · rintro ds' ms' ⟨ts, ns5, o3, rfl, rfl, ht, hr, hz⟩
      refine ⟨ts, ns5, _, _, rfl, rfl, fun t h => ?_, hr, by omega⟩
      obtain ⟨h1, h2, h3⟩ := ht t h
      exact ⟨h1, h2, by omega⟩
  · rintro ds' ms' ⟨ts, ns4, o, o2, rfl, rfl, ht, hr, hz⟩
    have ln : (ms.set k (.l (ns4.map PyData.int))).length = ms.length := List.length_set
    walk_at "evs"
    refine rc_tuple ⟨_, ts.map encT, rfl, .inl (.m (by rw [List.getElem?_append_right (by omega), ln, Nat.sub_self]; rfl)), ?_⟩
    walk_at "evs"
    refine ⟨_, _, rfl, ln, ?_⟩
    exact r m ts ns4 (by omega) (by omega) ⟨fun t h => (ht t h).1, by simp at hz; omega, by omega, by omega⟩ hr (fun t h => (ht t h).2.1) (by simp at hz; omega)

def Φ__law_sum : Ph := ph1 fun a ms R => ∃ fs : List (Int × Int), a = .d (.list (fs.map pr)) ∧ (∀ f ∈ fs, f.2 ≠ 0) ∧ (∀ k f, fs[k]? = some f → Bd 20000 (sumF (fs.take k)).1 ∧ Bd 6000 (sumF (fs.take k)).2 ∧ Bd 20000 f.1 ∧ Bd 2000 f.2) ∧ R (.d (pr (sumF fs))) ms
theorem len__law_sum : ∀ as ms R, Φ__law_sum as ms R → as.length = 1 := ph1_len
theorem rd__law_sum {K : PySem.W.Frag} : ∀ as ms R, Φ__law_sum as ms R → S K (t__law_sum K Φ__law_fraction) (as ++ List.replicate (5 - as.length) .u) ms (fin R) := by
  rintro as ms R ⟨a, rfl, fs, rfl, hne, hb, r⟩
  unfold t__law_sum
  walk_at "evs"
  refine s_asgG (js := [1, 2]) ?_
  walk_at "evs"
  refine eg_tup rfl (egs_cons (eg_name (egs_cons (eg_name (egs_nil ?_)))))
  walk_at "evs"
  refine s_forL (js := [3, 4]) ?_
  walk_at "evs"
  refine ⟨_, .d _, fun k ds' ms' => ∃ o o2 : SD, ds' = [.d (.list (fs.map pr)), .d (.int (sumF (fs.take k)).1), .d (.int (sumF (fs.take k)).2), o, o2] ∧ ms' = ms, ⟨.u, .u, rfl, rfl⟩, ?_, ?_⟩
  · rintro k e ds' ms' hk ⟨o, o2, rfl, rfl⟩
    rw [List.getElem?_map] at hk
    cases q : fs[k]? with
    | none => rw [q] at hk; cases hk
    | some f =>
      rw [q] at hk
      have e1 := (Option.some.inj hk).symm
      subst e1
      obtain ⟨b1, b2, b3, b4⟩ := hb k f q
      have h2 : (sumF (fs.take k)).2 ≠ 0 := fold_ne _ _ (by decide) fun x hx => hne x (List.mem_of_mem_take hx)
      have hf := hne f (List.mem_of_getElem? q)
      have up : ∀ {x : Int}, Bd 20000 x → Bd 100000 x := fun h => h.mono (by decide)
      have e : sumF (fs.take (k + 1)) = pl (sumF (fs.take k)) f := by rw [List.take_add_one, q]; exact foldl_snoc _ _
      refine eg_tup rfl (egs_cons (eg_name (egs_cons (eg_name (egs_nil ?_)))))
      refine s_asgG (js := [1, 2]) ?_
      walk_at "evs"
      refine rr_I ⟨_, _, rfl, rfl, ⟨up b1, b4.mono (by decide)⟩, ?_⟩
      walk_at "evs"
      refine rr_I ⟨_, _, rfl, rfl, ⟨up b3, b2.mono (by decide)⟩, ?_⟩
      walk_at "evs"
      refine rr_I ⟨_, _, rfl, rfl, ⟨b2.mono (by decide), b4.mono (by decide)⟩, ?_⟩
      walk_at "evs"
      refine ⟨_, _, rfl, _, _, rfl, rfl, Int.mul_ne_zero h2 hf, (b2.mul b4).mono (by decide), ?_⟩
      refine eg_tup rfl (egs_cons (eg_name (egs_cons (eg_name (egs_nil ?_)))))
      refine ⟨.d (.int f.1), .d (.int f.2), ?_, rfl⟩
      rw [e]
      rfl
  · rintro ds' ms' ⟨o, o2, rfl, rfl⟩
    walk_at "evs"
    rw [List.length_map, List.take_length]
    exact r

def Φ__law_weight_of : Ph := ph2 fun a b ms R => ∃ (m : Nat) (ts : List Tie) (sd : List Int), a = .d (encW m ts) ∧ (b = .d (encS sd) ∨ b = .d (.list (sd.map .int))) ∧ WebOk m ts ∧ sd.length = m ∧ R (.d (pr (sumF ((ts.filter (cutB sd)).map (·.2.2))))) ms
theorem len__law_weight_of : ∀ as ms R, Φ__law_weight_of as ms R → as.length = 2 := ph2_len
theorem sums_ok {fs : List (Int × Int)} (hl : fs.length ≤ 170) (hw : ∀ f ∈ fs, Wt f) : (∀ f ∈ fs, f.2 ≠ 0) ∧ ∀ k f, fs[k]? = some f → Bd 20000 (sumF (fs.take k)).1 ∧ Bd 6000 (sumF (fs.take k)).2 ∧ Bd 20000 f.1 ∧ Bd 2000 f.2 := by
  refine ⟨fun f hf => (wt_ok (hw f hf)).1, fun k f q => ?_⟩
  have wf := wt_ok (hw f (List.mem_of_getElem? q))
  have ok : ∀ x ∈ fs.take k, x.2 ≠ 0 ∧ Bd 32 x.1 ∧ Bd 10 x.2 := fun x hx => wt_ok (hw x (List.mem_of_mem_take hx))
  have b := fold_bd (fs.take k) (0, 1) 1 1 (by decide) (by decide) (Bd.of (by decide)) (Bd.of (by decide)) ok
  have ln : (fs.take k).length ≤ 170 := by rw [List.length_take]; omega
  exact ⟨b.1.mono (by omega), b.2.mono (by omega), wf.2.1.mono (by decide), wf.2.2.mono (by decide)⟩
theorem rd__law_weight_of {K : PySem.W.Frag} : ∀ as ms R, Φ__law_weight_of as ms R → S K (t__law_weight_of K Φ__law_sum) (as ++ List.replicate (5 - as.length) .u) ms (fin R) := by
  rintro as ms R ⟨a, b, rfl, m, ts, sd, rfl, hb, hw, hs, r⟩
  obtain ⟨b', rfl, hb'⟩ : ∃ b', b = .d b' ∧ (Sv ms b (.list (sd.map .int)) ∨ Sv ms b (.tuple (sd.map .int))) := by
    rcases hb with rfl | rfl
    · exact ⟨_, rfl, .inr (.d _)⟩
    · exact ⟨_, rfl, .inl (.d _)⟩
  have hl := hw.len
  unfold t__law_weight_of
  walk_at "evs"
  refine e_lcT (js := [2, 3, 4]) (by simp) ?_
  walk_at "evs"
  refine ⟨by rw [List.length_map]; omega, fun k acc ms' => acc = (((ts.take k).filter (cutB sd)).map (·.2.2)).map pr ∧ ms' = ms, ⟨rfl, rfl⟩, ?_, ?_⟩
  · rintro k e acc ms' hk ⟨rfl, rfl⟩
    rw [List.getElem?_map] at hk
    cases q : ts[k]? with
    | none => rw [q] at hk; cases hk
    | some t =>
      rw [q] at hk
      have e1 := (Option.some.inj hk).symm
      subst e1
      have ok := hw.all t (List.mem_of_getElem? q)
      refine eg_tup rfl (egs_cons (eg_name (egs_cons (eg_name (egs_cons (eg_name (egs_nil ?_)))))))
      walk_at "evs"
      refine rr_ix ⟨_, _, _, hb', rfl, atI_nat (j := t.1) (side_at (by have := ok.lt; have := ok.lm; omega)), ?_⟩
      walk_at "evs"
      refine rr_ix ⟨_, _, _, hb', rfl, atI_nat (j := t.2.1) (side_at (by have := ok.lm; omega)), ?_⟩
      refine rr_ne ⟨_, _, .d _, .d _, shaped_int _, shaped_int _, _, rfl, fun h => ?_, fun h => ?_⟩
      · rw [eqv_int] at h
        walk_at "evs"
        refine ⟨?_, rfl⟩
        rw [take_snoc q, List.filter_append, List.filter_cons, if_pos (show cutB sd t = true from h)]
        simp
      · rw [eqv_int] at h
        refine ⟨?_, rfl⟩
        rw [take_snoc q, List.filter_append, List.filter_cons, if_neg (by rw [show cutB sd t = false from h]; decide)]
        simp
  · rintro acc ms' ⟨rfl, rfl⟩
    walk_at "evs"
    rw [List.length_map, List.take_length]
    have ok := sums_ok (fs := (ts.filter (cutB sd)).map (·.2.2)) (by rw [List.length_map]; have := List.length_filter_le (cutB sd) ts; omega) (fun f hf => by
      obtain ⟨t, ht, rfl⟩ := List.mem_map.mp hf
      exact (hw.all t (List.mem_filter.mp ht).1).w)
    exact ⟨_, rfl, _, rfl, ok.1, ok.2, r⟩

def Φ__law_is_right : Ph := ph2 fun a b ms R => ∃ (m : Nat) (ts : List Tie) (sd : List Int), a = .d (encW m ts) ∧ b = .d (encS sd) ∧ WebOk m ts ∧ ts.length ≤ 100 ∧ sd.length = m ∧ R (.d (.bool true)) ms
theorem len__law_is_right : ∀ as ms R, Φ__law_is_right as ms R → as.length = 2 := ph2_len
def ngF (p : Int × Int) : Int × Int := (0 - (p.1.natAbs : Int), p.2)
theorem sum_cons (f : Int × Int) (r : List (Int × Int)) : sumV (f :: r) = val f + sumV r := rfl
/-- the weight is the top less all that is lost -/
theorem lost_sum (sd : List Int) : ∀ ts : List Tie, (∀ t ∈ ts, 0 < t.2.2.2) → sumV ((ts.filter gainB).map (·.2.2)) + sumV ((ts.filter (lostB sd)).map fun t => ngF t.2.2) = sumV ((ts.filter (cutB sd)).map (·.2.2))
  | [], _ => by
    show (0 : Rat) + 0 = 0
    grind
  | t :: r, h => by
    have ih := lost_sum sd r fun x hx => h x (by simp [hx])
    have ht := h t (by simp)
    have hd : (t.2.2.2 : Rat) ≠ 0 := cast_ne (by omega)
    rw [List.filter_cons, List.filter_cons, List.filter_cons]
    have vn : val (ngF t.2.2) = - (((t.2.2.1.natAbs : Int) : Rat) / (t.2.2.2 : Rat)) := by
      show ((0 - (t.2.2.1.natAbs : Int) : Int) : Rat) / (t.2.2.2 : Rat) = _
      rw [Int.zero_sub, Rat.intCast_neg]
      grind
    by_cases g : 0 < t.2.2.1
    · have g1 : gainB t = true := decide_eq_true g
      have e : ((t.2.2.1.natAbs : Int) : Rat) / (t.2.2.2 : Rat) = val t.2.2 := by
        have : (t.2.2.1.natAbs : Int) = t.2.2.1 := by omega
        rw [this]
        rfl
      cases c : cutB sd t with
      | true =>
        have l : lostB sd t = false := by unfold lostB; rw [c, g1]; rfl
        simp only [g1, l, if_true, if_false, List.map_cons, sum_cons, Bool.false_eq_true]
        grind
      | false =>
        have l : lostB sd t = true := by unfold lostB; rw [c, g1]; rfl
        simp only [g1, l, if_true, if_false, List.map_cons, sum_cons, Bool.false_eq_true]
        rw [vn, e]
        grind
    · have g1 : gainB t = false := decide_eq_false g
      have e : - (((t.2.2.1.natAbs : Int) : Rat) / (t.2.2.2 : Rat)) = val t.2.2 := by
        have : (t.2.2.1.natAbs : Int) = - t.2.2.1 := by omega
        rw [this, Rat.intCast_neg]
        show _ = (t.2.2.1 : Rat) / (t.2.2.2 : Rat)
        grind
      cases c : cutB sd t with
      | true =>
        have l : lostB sd t = true := by unfold lostB; rw [c, g1]; rfl
        simp only [g1, l, if_true, if_false, List.map_cons, sum_cons, Bool.false_eq_true]
        rw [vn, e]
        grind
      | false =>
        have l : lostB sd t = false := by unfold lostB; rw [c, g1]; rfl
        simp only [g1, l, if_true, if_false, List.map_cons, sum_cons, Bool.false_eq_true]
        exact ih
theorem encN_ints (ns : List Nat) : encN ns = (ns.map fun n : Nat => (n : Int)).map PyData.int := by simp
theorem shN (ns : List Nat) : Shp 1 (.tuple (encN ns)) := by
  rw [encN_ints]
  exact Shp.tup (Shp.ints _)
theorem left_ok {m : Nat} {ts : List Tie} {sd : List Int} (hw : WebOk m ts) (h100 : ts.length ≤ 100) : let fs := sumF ((ts.filter gainB).map (·.2.2)) :: (ts.filter (lostB sd)).map fun t => ngF t.2.2
    (∀ f ∈ fs, f.2 ≠ 0) ∧ (∀ k f, fs[k]? = some f → Bd 20000 (sumF (fs.take k)).1 ∧ Bd 6000 (sumF (fs.take k)).2 ∧ Bd 20000 f.1 ∧ Bd 2000 f.2) ∧ sumF fs = sumF ((ts.filter (cutB sd)).map (·.2.2)) := by
  intro fs
  have wg : ∀ f ∈ (ts.filter gainB).map (·.2.2), f.2 ≠ 0 ∧ Bd 32 f.1 ∧ Bd 10 f.2 := fun f hf => by
    obtain ⟨t, ht, rfl⟩ := List.mem_map.mp hf
    exact wt_ok (hw.all t (List.mem_filter.mp ht).1).w
  have wc : ∀ f ∈ (ts.filter (cutB sd)).map (·.2.2), f.2 ≠ 0 := fun f hf => by
    obtain ⟨t, ht, rfl⟩ := List.mem_map.mp hf
    exact (wt_ok (hw.all t (List.mem_filter.mp ht).1).w).1
  have wl : ∀ f ∈ (ts.filter (lostB sd)).map (fun t => ngF t.2.2), f.2 ≠ 0 ∧ Bd 32 f.1 ∧ Bd 10 f.2 := fun f hf => by
    obtain ⟨t, ht, rfl⟩ := List.mem_map.mp hf
    have w := wt_ok (hw.all t (List.mem_filter.mp ht).1).w
    refine ⟨w.1, w.2.1.le ?_, w.2.2⟩
    show (0 - (t.2.2.1.natAbs : Int)).natAbs ≤ t.2.2.1.natAbs
    omega
  have lg : ((ts.filter gainB).map (·.2.2)).length ≤ 100 := by rw [List.length_map]; have := List.length_filter_le gainB ts; omega
  have ll : ((ts.filter (lostB sd)).map (fun t => ngF t.2.2)).length ≤ 100 := by rw [List.length_map]; have := List.length_filter_le (lostB sd) ts; omega
  have bt := fold_bd _ (0, 1) 1 1 (by decide) (by decide) (Bd.of (by decide)) (Bd.of (by decide)) wg
  have lt := sumF_lo _ fun f hf => (wg f hf).1
  have t1 : Bd 5000 (sumF ((ts.filter gainB).map (·.2.2))).1 := bt.1.mono (by omega)
  have t2 : Bd 1100 (sumF ((ts.filter gainB).map (·.2.2))).2 := bt.2.mono (by omega)
  have tn : (sumF ((ts.filter gainB).map (·.2.2))).2 ≠ 0 := by have := lt.1.pos; omega
  have hne : ∀ f ∈ fs, f.2 ≠ 0 := by
    intro f hf
    rcases List.mem_cons.mp hf with rfl | hf
    · exact tn
    · exact (wl f hf).1
  refine ⟨hne, ?_, ?_⟩
  · intro k f hk
    cases k with
    | zero =>
      have e : sumF ((ts.filter gainB).map (·.2.2)) = f := Option.some.inj hk
      subst e
      have z1 : Bd 1 (0 : Int) := Bd.of (by decide)
      have z2 : Bd 1 (1 : Int) := Bd.of (by decide)
      exact ⟨z1.mono (by decide), z2.mono (by decide), t1.mono (by decide), t2.mono (by decide)⟩
    | succ k =>
      have hk2 : ((ts.filter (lostB sd)).map (fun t => ngF t.2.2))[k]? = some f := hk
      have wf := wl f (List.mem_of_getElem? hk2)
      have e : sumF (fs.take (k + 1)) = (((ts.filter (lostB sd)).map (fun t => ngF t.2.2)).take k).foldl pl (sumF ((ts.filter gainB).map (·.2.2))) := by
        show List.foldl pl (pl (0, 1) _) _ = _
        rw [pl_zero lt.1]
      have b := fold_bd (((ts.filter (lostB sd)).map (fun t => ngF t.2.2)).take k) (sumF ((ts.filter gainB).map (·.2.2))) 5000 1100 (by decide) tn t1 t2 fun x hx => wl x (List.mem_of_mem_take hx)
      have ln : (((ts.filter (lostB sd)).map (fun t => ngF t.2.2)).take k).length ≤ 100 := by rw [List.length_take]; omega
      rw [e]
      exact ⟨b.1.mono (by omega), b.2.mono (by omega), wf.2.1.mono (by decide), wf.2.2.mono (by decide)⟩
  · have h1 := sumF_lo fs hne
    have h2 := sumF_lo _ wc
    refine Lo.eq h1.1 h2.1 ?_
    rw [h1.2, h2.2, sum_cons, lt.2]
    exact lost_sum sd ts fun t ht => (hw.all t ht).w.lo.pos
theorem rd__law_is_right {K : PySem.W.Frag} : ∀ as ms R, Φ__law_is_right as ms R → S K (t__law_is_right K Φ_lost_ties Φ_cut_ties Φ_size_of Φ__law_sum Φ_top_of Φ__law_weight_of Φ_weight_of) (as ++ List.replicate (11 - as.length) .u) ms (fin R) := by
  rintro as ms R ⟨a, b, rfl, m, ts, sd, rfl, rfl, hw, h100, hs, r⟩
  have ok := left_ok (sd := sd) hw h100
  have n1 : ∀ x : MD, (ms ++ [x]).length = ms.length + 1 := fun x => by simp
  unfold t__law_is_right
  refine s_new (e_lst (ea_nil ⟨[], rfl, Nat.zero_le _, _, rfl, ?_⟩))
  refine s_new (e_lst (ea_nil ⟨[], rfl, Nat.zero_le _, _, rfl, ?_⟩))
  rw [n1]
  refine s_mid (fun ds' ms' => ∃ o4 o5 o6 o7 o8 : SD, ds' = [.d (encW m ts), .d (encS sd), .m ms.length, .m (ms.length + 1), o4, o5, o6, o7, o8, .u, .u] ∧ ms' = ms ++ [.l (encN (nums (cutB sd) ts ts.length))] ++ [.l (encN (nums (lostB sd) ts ts.length))]) ?_ ?_
  · refine s_forR (js := [4]) ?_
    walk_at "evs"
    refine rc_len ⟨_, _, rfl, .inr (.d _), ?_⟩
    walk_at "evs"
    rw [List.length_map]
    refine ⟨⟨by omega, by omega⟩, fun i ds' ms' => ∃ o4 o5 o6 o7 o8 : SD, ds' = [.d (encW m ts), .d (encS sd), .m ms.length, .m (ms.length + 1), o4, o5, o6, o7, o8, .u, .u] ∧ ms' = ms ++ [.l (encN (nums (cutB sd) ts i))] ++ [.l (encN (nums (lostB sd) ts i))], ⟨.u, .u, .u, .u, .u, rfl, rfl⟩, ?_, ?_⟩
    · rintro i ds' ms' hi ⟨o4, o5, o6, o7, o8, rfl, rfl⟩
      have hi2 : i < ts.length := by simpa using hi
      have tok := hw.all _ (getD_mem hi2)
      have zl := nums_len (lostB sd) ts i
      have zc := nums_len (cutB sd) ts i
      refine eg_name ?_
      refine s_seq ?_
      refine s_asgG (js := [5, 6, 7]) ?_
      walk_at "evs"
      refine rr_ix ⟨_, _, _, .inr (.d _), rfl, atI_nat (j := i) (tie_at hi2), ?_⟩
      refine eg_tup rfl (egs_cons (eg_name (egs_cons (eg_name (egs_cons (eg_name (egs_nil ?_)))))))
      refine s_seq ?_
      refine s_asg ?_
      walk_at "evs"
      refine rr_ix ⟨_, _, _, .inr (.d _), rfl, atI_nat (j := (ts.getD i tie0).1) (side_at (by have := tok.lt; have := tok.lm; omega)), ?_⟩
      walk_at "evs"
      refine rr_ix ⟨_, _, _, .inr (.d _), rfl, atI_nat (j := (ts.getD i tie0).2.1) (side_at (by have := tok.lm; omega)), ?_⟩
      refine rr_ne ⟨_, _, .d _, .d _, shaped_int _, shaped_int _, ?_⟩
      rw [eqv_int]
      have hc : (!decide (sd.getD (ts.getD i tie0).1 0 = sd.getD (ts.getD i tie0).2.1 0)) = cutB sd (ts.getD i tie0) := rfl
      rw [hc]
      generalize hT : ts.getD i tie0 = T at *
      refine s_mid (fun ds' ms' => ds' = [.d (encW m ts), .d (encS sd), .m ms.length, .m (ms.length + 1), .d (.int i), .d (.int T.1), .d (.int T.2.1), .d (pr T.2.2), .d (.bool (cutB sd T)), .u, .u] ∧ ms' = ms ++ [.l (encN (nums (cutB sd) ts (i + 1)))] ++ [.l (encN (nums (lostB sd) ts i))]) ?_ ?_
      · walk_at "evs"
        refine ⟨fun h => ?_, fun h => ?_⟩
        · walk_at "evs"
          refine e_append ?_
          refine e_varm rfl ⟨_, rfl, e_var rfl ⟨_, _, rfl, get2a _ _ _, by simp; omega, rfl, ?_⟩⟩
          rw [set2a, nums_yes (by rw [hT]; exact h)]
          simp
        · walk_at "evs"
          refine ⟨rfl, ?_⟩
          rw [nums_no (by rw [hT]; exact h)]
      · rintro ds' ms' ⟨rfl, rfl⟩
        have yes : lostB sd T = true → (ms ++ [MD.l (encN (nums (cutB sd) ts (i + 1)))] ++ [MD.l (encN (nums (lostB sd) ts i))]).set (ms.length + 1) (MD.l (encN (nums (lostB sd) ts i) ++ [PyData.int i])) = ms ++ [MD.l (encN (nums (cutB sd) ts (i + 1)))] ++ [MD.l (encN (nums (lostB sd) ts (i + 1)))] := fun h => by
          rw [set2b, nums_yes (p := lostB sd) (by rw [hT]; exact h)]
          simp
        have no : lostB sd T = false → nums (lostB sd) ts (i + 1) = nums (lostB sd) ts i := fun h => nums_no (by rw [hT]; exact h)
        walk_at "evs"
        refine ⟨fun c => ?_, fun c => ?_⟩
        · walk_at "evs"
          refine ⟨fun g => ?_, fun g => ?_⟩
          · have l : lostB sd T = true := by
              unfold lostB
              rw [c, show gainB T = false from decide_eq_false (by have := of_decide_eq_true g; omega)]
              rfl
            refine ⟨fun _ => ?_, nofun⟩
            refine s_drop (e_append ?_)
            refine e_varm rfl ⟨_, rfl, ?_⟩
            refine e_var rfl ?_
            refine ⟨_, _, rfl, get2b _ _ _, by rw [List.length_map]; omega, ?_⟩
            exact ⟨_, _, _, _, _, rfl, yes l⟩
          · have l : lostB sd T = false := by
              unfold lostB
              rw [c, show gainB T = true from decide_eq_true (by have := of_decide_eq_false g; omega)]
              rfl
            walk_at "evs"
            rw [c]
            refine ⟨nofun, fun _ => ⟨nofun, fun _ => ?_⟩⟩
            refine s_next ?_
            exact ⟨_, _, _, _, _, rfl, by rw [no l]⟩
        · refine ⟨nofun, fun _ => ?_⟩
          walk_at "evs"
          rw [c]
          refine ⟨fun _ => ?_, nofun⟩
          walk_at "evs"
          refine ⟨fun g => ?_, fun g => ?_⟩
          · have l : lostB sd T = true := by
              unfold lostB
              rw [c, show gainB T = true from g]
              rfl
            refine s_drop (e_append ?_)
            refine e_varm rfl ⟨_, rfl, ?_⟩
            refine e_var rfl ?_
            refine ⟨_, _, rfl, get2b _ _ _, by rw [List.length_map]; omega, ?_⟩
            exact ⟨_, _, _, _, _, rfl, yes l⟩
          · have l : lostB sd T = false := by
              unfold lostB
              rw [c, show gainB T = false from g]
              rfl
            refine s_next ?_
            exact ⟨_, _, _, _, _, rfl, by rw [no l]⟩
    · rintro ds' ms' ⟨o4, o5, o6, o7, o8, rfl, rfl⟩
      exact ⟨_, _, _, _, _, rfl, by simp⟩
  · rintro ds' ms' ⟨o4, o5, o6, o7, o8, rfl, rfl⟩
    have sq : ∀ ns : List Nat, SeqAt.shaped (.tuple (encN ns)) = true := fun ns => (shN ns).ok (by decide)
    have hl := hw.len
    walk_at "evs"
    refine ⟨_, _, rfl, m, ts, sd, rfl, rfl, hw, hs, ?_⟩
    walk_at "evs"
    refine rc_tuple ⟨_, _, rfl, .inl (.m (get2a _ _ _)), ?_⟩
    refine rr_ne ⟨_, _, .d _, .d _, sq _, sq _, _, rfl, fun h => ?_, fun _ => ?_⟩
    · rw [eqv_self (shN _)] at h
      cases h
    walk_at "evs"
    refine ⟨_, _, rfl, m, ts, sd, rfl, rfl, hw, hs, ?_⟩
    walk_at "evs"
    refine rc_tuple ⟨_, _, rfl, .inl (.m (get2b _ _ _)), ?_⟩
    refine rr_ne ⟨_, _, .d _, .d _, sq _, sq _, _, rfl, fun h => ?_, fun _ => ?_⟩
    · rw [eqv_self (shN _)] at h
      cases h
    walk_at "evs"
    have zl := nums_len (lostB sd) ts ts.length
    refine e_lcM (js := [4]) (by simp) ?_
    refine e_varm rfl ?_
    refine ⟨_, (nums (lostB sd) ts ts.length).map fun n : Nat => (n : Int), rfl, by rw [List.length_map]; omega, fun k acc ms' => acc = (((nums (lostB sd) ts ts.length).take k).map fun i => pr (ngF (ts.getD i tie0).2.2)) ∧ ms' = ms ++ [.l (encN (nums (cutB sd) ts ts.length))] ++ [.l (encN (nums (lostB sd) ts ts.length))], ⟨rfl, rfl⟩, ?_, ?_, ?_⟩
    · rintro k acc ms' ⟨rfl, rfl⟩
      rw [get2b, encN_ints]
    · rintro k e acc ms' hk ⟨rfl, rfl⟩
      rw [List.getElem?_map] at hk
      cases q : (nums (lostB sd) ts ts.length)[k]? with
      | none => rw [q] at hk; cases hk
      | some i =>
        rw [q] at hk
        have e1 := (Option.some.inj hk).symm
        subst e1
        have hi := nums_lt (List.mem_of_getElem? q)
        refine eg_name ?_
        walk_at "evs"
        refine ⟨fun _ => ?_, nofun⟩
        walk_at "evs"
        refine ⟨_, _, rfl, m, ts, i, rfl, rfl, hi, ?_⟩
        walk_at "evs"
        refine ⟨_, _, rfl, m, ts, i, rfl, rfl, hi, ?_⟩
        walk_at "evs"
        refine ⟨?_, rfl⟩
        rw [take_snoc q]
        simp [szF, ngF]
    rintro acc ms' ⟨rfl, rfl⟩
    rw [List.length_map, List.take_length]
    have e : (nums (lostB sd) ts ts.length).map (fun i => pr (ngF (ts.getD i tie0).2.2)) = ((ts.filter (lostB sd)).map fun t => ngF t.2.2).map pr := by
      rw [← nums_all]
      simp
    rw [e]
    walk_at "evs"
    refine ⟨_, rfl, m, ts, rfl, hw, ?_⟩
    walk_at "evs"
    refine rr_cat ⟨[pr _], _, rfl, rfl, ?_, ?_⟩
    · have := List.length_filter_le (lostB sd) ts
      simp
      omega
    walk_at "evs"
    refine ⟨_, rfl, _ :: _, rfl, ok.1, ok.2.1, ?_⟩
    rw [ok.2.2]
    have sp : ∀ p : Int × Int, SeqAt.shaped (pr p) = true := fun p => (Shp.pr p).ok (by decide)
    walk_at "evs"
    refine ⟨_, _, rfl, m, ts, sd, rfl, rfl, hw, hs, ?_⟩
    walk_at "evs"
    refine rr_eq ⟨_, _, .d _, .d _, sp _, sp _, _, rfl, fun _ => ?_, fun h => ?_⟩
    · walk_at "evs"
      refine ⟨_, _, rfl, m, ts, sd, rfl, .inl rfl, hw, hs, ?_⟩
      refine rr_eq ⟨_, _, .d _, .d _, sp _, sp _, ?_⟩
      rw [eqv_self (Shp.pr _)]
      exact ⟨_, _, rfl, n1 _, ms, _, rfl, rfl, r⟩
    · rw [eqv_self (Shp.pr _)] at h
      cases h

def Φ_law : Ph := ph1 fun a ms R => ∃ ns : List Int, a = .s ns ∧ ns.length ≤ 63 ∧ ms = [] ∧ R (.d (.bool true)) ms
theorem len_law : ∀ as ms R, Φ_law as ms R → as.length = 1 := ph1_len
theorem law_at {K : PySem.W.Frag} {H : Hp} {a : Addr} {ns : List Int} (hl : ns.length ≤ 63) (hO : Only H) (hS : SqL K H a (ns.map V.int)) : SpD K Φ_law [.ref a] H (fun v _ => v = .bl true) fun _ _ _ => False :=
  ⟨[], [], [], [.s ns], fun s _ => s = .d (.bool true), at_nil, ⟨.ref a, [], rfl, at_door hO hS, rfl⟩, ⟨_, rfl, ns, rfl, hl, rfl, rfl⟩, fun s v H' ms' w o e => by
    subst e
    obtain ⟨_, h⟩ := o
    cases h
    rfl⟩
theorem rd_law {K : PySem.W.Frag} : ∀ as ms R, Φ_law as ms R → S K (t_law K Φ__law_stream Φ__law_cell_at Φ__law_web Φ__law_next Φ__law_is_right) (as ++ List.replicate (7 - as.length) .u) ms (fin R) := by
  rintro as ms R ⟨a, rfl, ns, rfl, hns, rfl, r⟩
  unfold t_law
  refine s_new ?_
  walk_at "evs"
  refine ⟨_, _, rfl, ns, 0, rfl, rfl, fun c => ?_⟩
  walk_at "evs"
  refine ⟨_, _, rfl, c, 190, rfl, rfl, by decide, fun xs => ?_⟩
  refine ⟨_, rfl, ?_⟩
  walk_at "evs"
  refine ⟨_, _, _, rfl, 0, xs, 1, 9, rfl, rfl, rfl, rfl, by decide, by decide, by decide, fun m ts xs1 m1 m9 hw hr hsm h81 => ?_⟩
  have h100 : ts.length ≤ 100 := by omega
  refine s_seq ?_
  refine s_forL (js := [3]) ?_
  walk_at "evs"
  refine ⟨_, .s ns, ?_⟩
  refine ⟨_, .d _, fun k ds' ms' => ∃ o3 o4 o5 : SD, ds' = [.s ns, .m 0, .d (encW m ts), o3, o4, o5, .u] ∧ ms' = [.l (xs1.map .int)], ⟨.u, .u, .u, rfl, rfl⟩, ?_, ?_⟩
  · rintro k e ds' ms' hk ⟨o3, o4, o5, rfl, rfl⟩
    obtain ⟨v, rfl⟩ : ∃ v, e = .int v := by
      have h1 := List.mem_of_getElem? hk
      have h2 := List.mem_of_mem_drop (List.mem_of_mem_take h1)
      obtain ⟨v, _, rfl⟩ := List.mem_map.mp h2
      exact ⟨v, rfl⟩
    refine eg_name ?_
    refine s_new ?_
    walk_at "evs"
    refine ⟨_, _, rfl, v, 12, rfl, rfl, by decide, fun ys => ?_⟩
    refine ⟨_, rfl, ?_⟩
    walk_at "evs"
    refine e_lcR (js := [6]) (by simp) ?_
    walk_at "evs"
    refine ⟨⟨by omega, by omega⟩, fun i acc ms' => ∃ vs ys' : List Int, acc = vs.map .int ∧ vs.length = i ∧ ms' = [.l (xs1.map .int), .l (ys'.map .int)], ⟨[], ys, rfl, rfl, rfl⟩, ?_, ?_⟩
    · rintro i acc ms' hi ⟨vs, ys', rfl, hl, rfl⟩
      refine eg_name ?_
      walk_at "evs"
      refine ⟨fun _ => ?_, nofun⟩
      walk_at "evs"
      refine ⟨_, _, rfl, 1, ys', _, rfl, rfl, by decide, rfl, fun z ys2 z0 z1 => ?_⟩
      exact ⟨_, rfl, vs ++ [z], ys2, by simp, by simp [hl], rfl⟩
    · rintro acc ms' ⟨vs, ys', rfl, hl, rfl⟩
      have hv : vs.length = m - 1 := by omega
      walk_at "evs"
      refine rc_tuple ⟨_, _, rfl, .inl (.d _), ?_⟩
      refine rr_catT ⟨_, _, rfl, rfl, by simp, by simp; omega, ?_⟩
      walk_at "evs"
      refine ⟨_, _, rfl, m, ts, 0 :: vs, rfl, rfl, hw, h100, by simp; omega, ?_⟩
      refine ⟨_, rfl, nofun, fun _ => ?_⟩
      refine s_next ?_
      exact ⟨[_], _, rfl, rfl, _, _, _, rfl, rfl⟩
  rintro ds' ms' ⟨o3, o4, o5, rfl, rfl⟩
  walk_at "evs"
  refine rr_rep1 ⟨_, _, rfl, rfl, by omega, by omega, ?_⟩
  walk_at "evs"
  refine ⟨_, _, rfl, m, ts, List.replicate m 0, rfl, by show SD.d (.tuple (List.replicate _ (PyData.int 0))) = SD.d (.tuple ((List.replicate m 0).map PyData.int)); rw [List.map_replicate]; rfl, hw, h100, by simp, ?_⟩
  exact ⟨[], _, rfl, rfl, r⟩

theorem ok_common_divisor {Pg : Program} {w : World} {K : PySem.W.Frag} {mg : Str → Option Value} {base : Heap} {f : Addr} {fd : FuncData} (F : Fun K "common_divisor" "common_divisor" s_common_divisor f fd) (hm : mg "common_divisor" = some (.ref f)) (B : ∀ x, x ∈ blt → mg x = none) : Kn Pg w K mg base "common_divisor" 1 ["one", "other"] Φ_common_divisor :=
  ⟨f, fd, ok_of F sc_common_divisor len_common_divisor (by decide) (fun cdv A outer s H E hr => ⟨_, dv_common_divisor hr B, rd_common_divisor⟩), hm, F.kp, F.binds fun _ _ _ _ _ _ us hl => match us, hl with | [_, _], _ => rfl⟩
theorem ok_as_fraction {Pg : Program} {w : World} {K : PySem.W.Frag} {mg : Str → Option Value} {base : Heap} {f : Addr} {fd : FuncData} (F : Fun K "as_fraction" "as_fraction" s_as_fraction f fd) (hm : mg "as_fraction" = some (.ref f)) (B : ∀ x, x ∈ blt → mg x = none) (g_common_divisor : Kn Pg w K mg base "common_divisor" 1 ["one", "other"] Φ_common_divisor) : Kn Pg w K mg base "as_fraction" 2 ["top", "bottom"] Φ_as_fraction :=
  ⟨f, fd, ok_of F sc_as_fraction len_as_fraction (by decide) (fun cdv A outer s H E hr => ⟨_, dv_as_fraction hr B g_common_divisor, rd_as_fraction⟩), hm, F.kp, F.binds fun _ _ _ _ _ _ us hl => match us, hl with | [_, _], _ => rfl⟩
theorem ok_plus {Pg : Program} {w : World} {K : PySem.W.Frag} {mg : Str → Option Value} {base : Heap} {f : Addr} {fd : FuncData} (F : Fun K "plus" "plus" s_plus f fd) (hm : mg "plus" = some (.ref f)) (B : ∀ x, x ∈ blt → mg x = none) (g_as_fraction : Kn Pg w K mg base "as_fraction" 2 ["top", "bottom"] Φ_as_fraction) : Kn Pg w K mg base "plus" 3 ["one", "other"] Φ_plus :=
  ⟨f, fd, ok_of F sc_plus len_plus (by decide) (fun cdv A outer s H E hr => ⟨_, dv_plus hr B g_as_fraction, rd_plus⟩), hm, F.kp, F.binds fun _ _ _ _ _ _ us hl => match us, hl with | [_, _], _ => rfl⟩
theorem ok_added {Pg : Program} {w : World} {K : PySem.W.Frag} {mg : Str → Option Value} {base : Heap} {f : Addr} {fd : FuncData} (F : Fun K "added" "added" s_added f fd) (hm : mg "added" = some (.ref f)) (B : ∀ x, x ∈ blt → mg x = none) (g_plus : Kn Pg w K mg base "plus" 3 ["one", "other"] Φ_plus) : Kn Pg w K mg base "added" 4 ["terms"] Φ_added :=
  ⟨f, fd, ok_of F sc_added len_added (by decide) (fun cdv A outer s H E hr => ⟨_, dv_added hr B g_plus, rd_added⟩), hm, F.kp, F.binds fun _ _ _ _ _ _ us hl => match us, hl with | [_], _ => rfl⟩
theorem ok_size_of {Pg : Program} {w : World} {K : PySem.W.Frag} {mg : Str → Option Value} {base : Heap} {f : Addr} {fd : FuncData} (F : Fun K "size_of" "size_of" s_size_of f fd) (hm : mg "size_of" = some (.ref f)) (B : ∀ x, x ∈ blt → mg x = none) : Kn Pg w K mg base "size_of" 1 ["web", "tie"] Φ_size_of :=
  ⟨f, fd, ok_of F sc_size_of len_size_of (by decide) (fun cdv A outer s H E hr => ⟨_, dv_size_of hr B, rd_size_of⟩), hm, F.kp, F.binds fun _ _ _ _ _ _ us hl => match us, hl with | [_, _], _ => rfl⟩
theorem ok_is_gainful {Pg : Program} {w : World} {K : PySem.W.Frag} {mg : Str → Option Value} {base : Heap} {f : Addr} {fd : FuncData} (F : Fun K "is_gainful" "is_gainful" s_is_gainful f fd) (hm : mg "is_gainful" = some (.ref f)) (B : ∀ x, x ∈ blt → mg x = none) : Kn Pg w K mg base "is_gainful" 1 ["web", "tie"] Φ_is_gainful :=
  ⟨f, fd, ok_of F sc_is_gainful len_is_gainful (by decide) (fun cdv A outer s H E hr => ⟨_, dv_is_gainful hr B, rd_is_gainful⟩), hm, F.kp, F.binds fun _ _ _ _ _ _ us hl => match us, hl with | [_, _], _ => rfl⟩
theorem ok_top_of {Pg : Program} {w : World} {K : PySem.W.Frag} {mg : Str → Option Value} {base : Heap} {f : Addr} {fd : FuncData} (F : Fun K "top_of" "top_of" s_top_of f fd) (hm : mg "top_of" = some (.ref f)) (B : ∀ x, x ∈ blt → mg x = none) (g_added : Kn Pg w K mg base "added" 4 ["terms"] Φ_added) : Kn Pg w K mg base "top_of" 5 ["web"] Φ_top_of :=
  ⟨f, fd, ok_of F sc_top_of len_top_of (by decide) (fun cdv A outer s H E hr => ⟨_, dv_top_of hr B g_added, rd_top_of⟩), hm, F.kp, F.binds fun _ _ _ _ _ _ us hl => match us, hl with | [_], _ => rfl⟩
theorem ok_is_cut {Pg : Program} {w : World} {K : PySem.W.Frag} {mg : Str → Option Value} {base : Heap} {f : Addr} {fd : FuncData} (F : Fun K "is_cut" "is_cut" s_is_cut f fd) (hm : mg "is_cut" = some (.ref f)) (B : ∀ x, x ∈ blt → mg x = none) : Kn Pg w K mg base "is_cut" 1 ["web", "side", "tie"] Φ_is_cut :=
  ⟨f, fd, ok_of F sc_is_cut len_is_cut (by decide) (fun cdv A outer s H E hr => ⟨_, dv_is_cut hr B, rd_is_cut⟩), hm, F.kp, F.binds fun _ _ _ _ _ _ us hl => match us, hl with | [_, _, _], _ => rfl⟩
theorem ok_cut_ties {Pg : Program} {w : World} {K : PySem.W.Frag} {mg : Str → Option Value} {base : Heap} {f : Addr} {fd : FuncData} (F : Fun K "cut_ties" "cut_ties" s_cut_ties f fd) (hm : mg "cut_ties" = some (.ref f)) (B : ∀ x, x ∈ blt → mg x = none) (g_is_cut : Kn Pg w K mg base "is_cut" 1 ["web", "side", "tie"] Φ_is_cut) : Kn Pg w K mg base "cut_ties" 2 ["web", "side"] Φ_cut_ties :=
  ⟨f, fd, ok_of F sc_cut_ties len_cut_ties (by decide) (fun cdv A outer s H E hr => ⟨_, dv_cut_ties hr B g_is_cut, rd_cut_ties⟩), hm, F.kp, F.binds fun _ _ _ _ _ _ us hl => match us, hl with | [_, _], _ => rfl⟩
theorem ok_lost_ties {Pg : Program} {w : World} {K : PySem.W.Frag} {mg : Str → Option Value} {base : Heap} {f : Addr} {fd : FuncData} (F : Fun K "lost_ties" "lost_ties" s_lost_ties f fd) (hm : mg "lost_ties" = some (.ref f)) (B : ∀ x, x ∈ blt → mg x = none) (g_is_cut : Kn Pg w K mg base "is_cut" 1 ["web", "side", "tie"] Φ_is_cut) (g_is_gainful : Kn Pg w K mg base "is_gainful" 1 ["web", "tie"] Φ_is_gainful) : Kn Pg w K mg base "lost_ties" 2 ["web", "side"] Φ_lost_ties :=
  ⟨f, fd, ok_of F sc_lost_ties len_lost_ties (by decide) (fun cdv A outer s H E hr => ⟨_, dv_lost_ties hr B g_is_cut g_is_gainful, rd_lost_ties⟩), hm, F.kp, F.binds fun _ _ _ _ _ _ us hl => match us, hl with | [_, _], _ => rfl⟩
theorem ok_weight_of {Pg : Program} {w : World} {K : PySem.W.Frag} {mg : Str → Option Value} {base : Heap} {f : Addr} {fd : FuncData} (F : Fun K "weight_of" "weight_of" s_weight_of f fd) (hm : mg "weight_of" = some (.ref f)) (B : ∀ x, x ∈ blt → mg x = none) (g_added : Kn Pg w K mg base "added" 4 ["terms"] Φ_added) (g_cut_ties : Kn Pg w K mg base "cut_ties" 2 ["web", "side"] Φ_cut_ties) : Kn Pg w K mg base "weight_of" 5 ["web", "side"] Φ_weight_of :=
  ⟨f, fd, ok_of F sc_weight_of len_weight_of (by decide) (fun cdv A outer s H E hr => ⟨_, dv_weight_of hr B g_added g_cut_ties, rd_weight_of⟩), hm, F.kp, F.binds fun _ _ _ _ _ _ us hl => match us, hl with | [_, _], _ => rfl⟩
theorem ok__law_cell_at {Pg : Program} {w : World} {K : PySem.W.Frag} {mg : Str → Option Value} {base : Heap} {f : Addr} {fd : FuncData} (F : Fun K "_law_cell_at" "_law_cell_at" s__law_cell_at f fd) (hm : mg "_law_cell_at" = some (.ref f)) (B : ∀ x, x ∈ blt → mg x = none) : Kn Pg w K mg base "_law_cell_at" 1 ["_law_script", "_law_k"] Φ__law_cell_at :=
  ⟨f, fd, ok_of F sc__law_cell_at len__law_cell_at (by decide) (fun cdv A outer s H E hr => ⟨_, dv__law_cell_at hr B, rd__law_cell_at⟩), hm, F.kp, F.binds fun _ _ _ _ _ _ us hl => match us, hl with | [_, _], _ => rfl⟩
theorem ok__law_stream {Pg : Program} {w : World} {K : PySem.W.Frag} {mg : Str → Option Value} {base : Heap} {f : Addr} {fd : FuncData} (F : Fun K "_law_stream" "_law_stream" s__law_stream f fd) (hm : mg "_law_stream" = some (.ref f)) (B : ∀ x, x ∈ blt → mg x = none) : Kn Pg w K mg base "_law_stream" 1 ["_law_cell", "_law_many"] Φ__law_stream :=
  ⟨f, fd, ok_of F sc__law_stream len__law_stream (by decide) (fun cdv A outer s H E hr => ⟨_, dv__law_stream hr B, rd__law_stream⟩), hm, F.kp, F.binds fun _ _ _ _ _ _ us hl => match us, hl with | [_, _], _ => rfl⟩
theorem ok__law_next {Pg : Program} {w : World} {K : PySem.W.Frag} {mg : Str → Option Value} {base : Heap} {f : Addr} {fd : FuncData} (F : Fun K "_law_next" "_law_next" s__law_next f fd) (hm : mg "_law_next" = some (.ref f)) (B : ∀ x, x ∈ blt → mg x = none) : Kn Pg w K mg base "_law_next" 1 ["_law_xs", "_law_many"] Φ__law_next :=
  ⟨f, fd, ok_of F sc__law_next len__law_next (by decide) (fun cdv A outer s H E hr => ⟨_, dv__law_next hr B, rd__law_next⟩), hm, F.kp, F.binds fun _ _ _ _ _ _ us hl => match us, hl with | [_, _], _ => rfl⟩
theorem ok__law_divisor {Pg : Program} {w : World} {K : PySem.W.Frag} {mg : Str → Option Value} {base : Heap} {f : Addr} {fd : FuncData} (F : Fun K "_law_divisor" "_law_divisor" s__law_divisor f fd) (hm : mg "_law_divisor" = some (.ref f)) (B : ∀ x, x ∈ blt → mg x = none) : Kn Pg w K mg base "_law_divisor" 1 ["_law_one", "_law_other"] Φ__law_divisor :=
  ⟨f, fd, ok_of F sc__law_divisor len__law_divisor (by decide) (fun cdv A outer s H E hr => ⟨_, dv__law_divisor hr B, rd__law_divisor⟩), hm, F.kp, F.binds fun _ _ _ _ _ _ us hl => match us, hl with | [_, _], _ => rfl⟩
theorem ok__law_fraction {Pg : Program} {w : World} {K : PySem.W.Frag} {mg : Str → Option Value} {base : Heap} {f : Addr} {fd : FuncData} (F : Fun K "_law_fraction" "_law_fraction" s__law_fraction f fd) (hm : mg "_law_fraction" = some (.ref f)) (B : ∀ x, x ∈ blt → mg x = none) (g__law_divisor : Kn Pg w K mg base "_law_divisor" 1 ["_law_one", "_law_other"] Φ__law_divisor) : Kn Pg w K mg base "_law_fraction" 2 ["_law_top", "_law_bottom"] Φ__law_fraction :=
  ⟨f, fd, ok_of F sc__law_fraction len__law_fraction (by decide) (fun cdv A outer s H E hr => ⟨_, dv__law_fraction hr B g__law_divisor, rd__law_fraction⟩), hm, F.kp, F.binds fun _ _ _ _ _ _ us hl => match us, hl with | [_, _], _ => rfl⟩
theorem ok__law_weight {Pg : Program} {w : World} {K : PySem.W.Frag} {mg : Str → Option Value} {base : Heap} {f : Addr} {fd : FuncData} (F : Fun K "_law_weight" "_law_weight" s__law_weight f fd) (hm : mg "_law_weight" = some (.ref f)) (B : ∀ x, x ∈ blt → mg x = none) (g__law_next : Kn Pg w K mg base "_law_next" 1 ["_law_xs", "_law_many"] Φ__law_next) (g__law_fraction : Kn Pg w K mg base "_law_fraction" 2 ["_law_top", "_law_bottom"] Φ__law_fraction) : Kn Pg w K mg base "_law_weight" 3 ["_law_xs", "_law_manner"] Φ__law_weight :=
  ⟨f, fd, ok_of F sc__law_weight len__law_weight (by decide) (fun cdv A outer s H E hr => ⟨_, dv__law_weight hr B g__law_next g__law_fraction, rd__law_weight⟩), hm, F.kp, F.binds fun _ _ _ _ _ _ us hl => match us, hl with | [_, _], _ => rfl⟩
theorem ok__law_web {Pg : Program} {w : World} {K : PySem.W.Frag} {mg : Str → Option Value} {base : Heap} {f : Addr} {fd : FuncData} (F : Fun K "_law_web" "_law_web" s__law_web f fd) (hm : mg "_law_web" = some (.ref f)) (B : ∀ x, x ∈ blt → mg x = none) (g__law_next : Kn Pg w K mg base "_law_next" 1 ["_law_xs", "_law_many"] Φ__law_next) (g__law_weight : Kn Pg w K mg base "_law_weight" 3 ["_law_xs", "_law_manner"] Φ__law_weight) : Kn Pg w K mg base "_law_web" 4 ["_law_xs", "_law_least", "_law_most"] Φ__law_web :=
  ⟨f, fd, ok_of F sc__law_web len__law_web (by decide) (fun cdv A outer s H E hr => ⟨_, dv__law_web hr B g__law_next g__law_weight, rd__law_web⟩), hm, F.kp, F.binds fun _ _ _ _ _ _ us hl => match us, hl with | [_, _, _], _ => rfl⟩
theorem ok__law_sum {Pg : Program} {w : World} {K : PySem.W.Frag} {mg : Str → Option Value} {base : Heap} {f : Addr} {fd : FuncData} (F : Fun K "_law_sum" "_law_sum" s__law_sum f fd) (hm : mg "_law_sum" = some (.ref f)) (B : ∀ x, x ∈ blt → mg x = none) (g__law_fraction : Kn Pg w K mg base "_law_fraction" 2 ["_law_top", "_law_bottom"] Φ__law_fraction) : Kn Pg w K mg base "_law_sum" 3 ["_law_fractions"] Φ__law_sum :=
  ⟨f, fd, ok_of F sc__law_sum len__law_sum (by decide) (fun cdv A outer s H E hr => ⟨_, dv__law_sum hr B g__law_fraction, rd__law_sum⟩), hm, F.kp, F.binds fun _ _ _ _ _ _ us hl => match us, hl with | [_], _ => rfl⟩
theorem ok__law_weight_of {Pg : Program} {w : World} {K : PySem.W.Frag} {mg : Str → Option Value} {base : Heap} {f : Addr} {fd : FuncData} (F : Fun K "_law_weight_of" "_law_weight_of" s__law_weight_of f fd) (hm : mg "_law_weight_of" = some (.ref f)) (B : ∀ x, x ∈ blt → mg x = none) (g__law_sum : Kn Pg w K mg base "_law_sum" 3 ["_law_fractions"] Φ__law_sum) : Kn Pg w K mg base "_law_weight_of" 4 ["_law_web_here", "_law_side"] Φ__law_weight_of :=
  ⟨f, fd, ok_of F sc__law_weight_of len__law_weight_of (by decide) (fun cdv A outer s H E hr => ⟨_, dv__law_weight_of hr B g__law_sum, rd__law_weight_of⟩), hm, F.kp, F.binds fun _ _ _ _ _ _ us hl => match us, hl with | [_, _], _ => rfl⟩
theorem ok__law_is_right {Pg : Program} {w : World} {K : PySem.W.Frag} {mg : Str → Option Value} {base : Heap} {f : Addr} {fd : FuncData} (F : Fun K "_law_is_right" "_law_is_right" s__law_is_right f fd) (hm : mg "_law_is_right" = some (.ref f)) (B : ∀ x, x ∈ blt → mg x = none) (g_lost_ties : Kn Pg w K mg base "lost_ties" 2 ["web", "side"] Φ_lost_ties) (g_cut_ties : Kn Pg w K mg base "cut_ties" 2 ["web", "side"] Φ_cut_ties) (g_size_of : Kn Pg w K mg base "size_of" 1 ["web", "tie"] Φ_size_of) (g__law_sum : Kn Pg w K mg base "_law_sum" 3 ["_law_fractions"] Φ__law_sum) (g_top_of : Kn Pg w K mg base "top_of" 5 ["web"] Φ_top_of) (g__law_weight_of : Kn Pg w K mg base "_law_weight_of" 4 ["_law_web_here", "_law_side"] Φ__law_weight_of) (g_weight_of : Kn Pg w K mg base "weight_of" 5 ["web", "side"] Φ_weight_of) : Kn Pg w K mg base "_law_is_right" 6 ["_law_web_here", "_law_side"] Φ__law_is_right :=
  ⟨f, fd, ok_of F sc__law_is_right len__law_is_right (by decide) (fun cdv A outer s H E hr => ⟨_, dv__law_is_right hr B g_lost_ties g_cut_ties g_size_of g__law_sum g_top_of g__law_weight_of g_weight_of, rd__law_is_right⟩), hm, F.kp, F.binds fun _ _ _ _ _ _ us hl => match us, hl with | [_, _], _ => rfl⟩
theorem all_mk {l : PySem.W.OpenLaw} {w : World} {K : PySem.W.Frag} {h : Heap} {mg : Str → Option Value} {fa f1 f2 f3 f4 f5 f6 f7 f8 f9 f10 f11 f12 f13 f14 f15 f16 f17 f18 f19 f20 f21 f22 : Addr} (X : K.In h) (G : h.Ns mainGlobals mg) (hfa : mg "law" = some (.ref fa))
    {od1 an1 od2 an2 od3 an3 od4 an4 od5 an5 od6 an6 od7 an7 od8 an8 od9 an9 od10 an10 od11 an11 od12 an12 od13 an13 od14 an14 od15 an15 od16 an16 od17 an17 od18 an18 od19 an19 od20 an20 od21 an21 od22 an22 : Option Addr} {sl1 sl2 sl3 sl4 sl5 sl6 sl7 sl8 sl9 sl10 sl11 sl12 sl13 sl14 sl15 sl16 sl17 sl18 sl19 sl20 sl21 sl22 : Array (Option Value)} {oc1 kV1 dc1 pm1 cd1 ct1 oc2 kV2 dc2 pm2 cd2 ct2 oc3 kV3 dc3 pm3 cd3 ct3 oc4 kV4 dc4 pm4 cd4 ct4 oc5 kV5 dc5 pm5 cd5 ct5 oc6 kV6 dc6 pm6 cd6 ct6 oc7 kV7 dc7 pm7 cd7 ct7 oc8 kV8 dc8 pm8 cd8 ct8 oc9 kV9 dc9 pm9 cd9 ct9 oc10 kV10 dc10 pm10 cd10 ct10 oc11 kV11 dc11 pm11 cd11 ct11 oc12 kV12 dc12 pm12 cd12 ct12 oc13 kV13 dc13 pm13 cd13 ct13 oc14 kV14 dc14 pm14 cd14 ct14 oc15 kV15 dc15 pm15 cd15 ct15 oc16 kV16 dc16 pm16 cd16 ct16 oc17 kV17 dc17 pm17 cd17 ct17 oc18 kV18 dc18 pm18 cd18 ct18 oc19 kV19 dc19 pm19 cd19 ct19 oc20 kV20 dc20 pm20 cd20 ct20 oc21 kV21 dc21 pm21 cd21 ct21 oc22 kV22 dc22 pm22 cd22 ct22 : Value}
    (a1 : PySem.W.nsIn K mainGlobals "common_divisor" = some (some (.ref f1))) (l1 : K.lookup f1 = some ⟨oc1, od1, .func (PySem.W.fnOf "common_divisor" "common_divisor" (defArgs s_common_divisor) (defBody s_common_divisor) (defScope s_common_divisor) .none kV1 dc1 pm1 an1 cd1 ct1), sl1⟩) (c1 : PySem.W.codeIn K cd1 "common_divisor" = true) (k1 : PySem.W.keepIn K (.ref f1) = true)
    (a2 : PySem.W.nsIn K mainGlobals "as_fraction" = some (some (.ref f2))) (l2 : K.lookup f2 = some ⟨oc2, od2, .func (PySem.W.fnOf "as_fraction" "as_fraction" (defArgs s_as_fraction) (defBody s_as_fraction) (defScope s_as_fraction) .none kV2 dc2 pm2 an2 cd2 ct2), sl2⟩) (c2 : PySem.W.codeIn K cd2 "as_fraction" = true) (k2 : PySem.W.keepIn K (.ref f2) = true)
    (a3 : PySem.W.nsIn K mainGlobals "plus" = some (some (.ref f3))) (l3 : K.lookup f3 = some ⟨oc3, od3, .func (PySem.W.fnOf "plus" "plus" (defArgs s_plus) (defBody s_plus) (defScope s_plus) .none kV3 dc3 pm3 an3 cd3 ct3), sl3⟩) (c3 : PySem.W.codeIn K cd3 "plus" = true) (k3 : PySem.W.keepIn K (.ref f3) = true)
    (a4 : PySem.W.nsIn K mainGlobals "added" = some (some (.ref f4))) (l4 : K.lookup f4 = some ⟨oc4, od4, .func (PySem.W.fnOf "added" "added" (defArgs s_added) (defBody s_added) (defScope s_added) .none kV4 dc4 pm4 an4 cd4 ct4), sl4⟩) (c4 : PySem.W.codeIn K cd4 "added" = true) (k4 : PySem.W.keepIn K (.ref f4) = true)
    (a5 : PySem.W.nsIn K mainGlobals "size_of" = some (some (.ref f5))) (l5 : K.lookup f5 = some ⟨oc5, od5, .func (PySem.W.fnOf "size_of" "size_of" (defArgs s_size_of) (defBody s_size_of) (defScope s_size_of) .none kV5 dc5 pm5 an5 cd5 ct5), sl5⟩) (c5 : PySem.W.codeIn K cd5 "size_of" = true) (k5 : PySem.W.keepIn K (.ref f5) = true)
    (a6 : PySem.W.nsIn K mainGlobals "is_gainful" = some (some (.ref f6))) (l6 : K.lookup f6 = some ⟨oc6, od6, .func (PySem.W.fnOf "is_gainful" "is_gainful" (defArgs s_is_gainful) (defBody s_is_gainful) (defScope s_is_gainful) .none kV6 dc6 pm6 an6 cd6 ct6), sl6⟩) (c6 : PySem.W.codeIn K cd6 "is_gainful" = true) (k6 : PySem.W.keepIn K (.ref f6) = true)
    (a7 : PySem.W.nsIn K mainGlobals "top_of" = some (some (.ref f7))) (l7 : K.lookup f7 = some ⟨oc7, od7, .func (PySem.W.fnOf "top_of" "top_of" (defArgs s_top_of) (defBody s_top_of) (defScope s_top_of) .none kV7 dc7 pm7 an7 cd7 ct7), sl7⟩) (c7 : PySem.W.codeIn K cd7 "top_of" = true) (k7 : PySem.W.keepIn K (.ref f7) = true)
    (a8 : PySem.W.nsIn K mainGlobals "is_cut" = some (some (.ref f8))) (l8 : K.lookup f8 = some ⟨oc8, od8, .func (PySem.W.fnOf "is_cut" "is_cut" (defArgs s_is_cut) (defBody s_is_cut) (defScope s_is_cut) .none kV8 dc8 pm8 an8 cd8 ct8), sl8⟩) (c8 : PySem.W.codeIn K cd8 "is_cut" = true) (k8 : PySem.W.keepIn K (.ref f8) = true)
    (a9 : PySem.W.nsIn K mainGlobals "cut_ties" = some (some (.ref f9))) (l9 : K.lookup f9 = some ⟨oc9, od9, .func (PySem.W.fnOf "cut_ties" "cut_ties" (defArgs s_cut_ties) (defBody s_cut_ties) (defScope s_cut_ties) .none kV9 dc9 pm9 an9 cd9 ct9), sl9⟩) (c9 : PySem.W.codeIn K cd9 "cut_ties" = true) (k9 : PySem.W.keepIn K (.ref f9) = true)
    (a10 : PySem.W.nsIn K mainGlobals "lost_ties" = some (some (.ref f10))) (l10 : K.lookup f10 = some ⟨oc10, od10, .func (PySem.W.fnOf "lost_ties" "lost_ties" (defArgs s_lost_ties) (defBody s_lost_ties) (defScope s_lost_ties) .none kV10 dc10 pm10 an10 cd10 ct10), sl10⟩) (c10 : PySem.W.codeIn K cd10 "lost_ties" = true) (k10 : PySem.W.keepIn K (.ref f10) = true)
    (a11 : PySem.W.nsIn K mainGlobals "weight_of" = some (some (.ref f11))) (l11 : K.lookup f11 = some ⟨oc11, od11, .func (PySem.W.fnOf "weight_of" "weight_of" (defArgs s_weight_of) (defBody s_weight_of) (defScope s_weight_of) .none kV11 dc11 pm11 an11 cd11 ct11), sl11⟩) (c11 : PySem.W.codeIn K cd11 "weight_of" = true) (k11 : PySem.W.keepIn K (.ref f11) = true)
    (a12 : PySem.W.nsIn K mainGlobals "_law_cell_at" = some (some (.ref f12))) (l12 : K.lookup f12 = some ⟨oc12, od12, .func (PySem.W.fnOf "_law_cell_at" "_law_cell_at" (defArgs s__law_cell_at) (defBody s__law_cell_at) (defScope s__law_cell_at) .none kV12 dc12 pm12 an12 cd12 ct12), sl12⟩) (c12 : PySem.W.codeIn K cd12 "_law_cell_at" = true) (k12 : PySem.W.keepIn K (.ref f12) = true)
    (a13 : PySem.W.nsIn K mainGlobals "_law_stream" = some (some (.ref f13))) (l13 : K.lookup f13 = some ⟨oc13, od13, .func (PySem.W.fnOf "_law_stream" "_law_stream" (defArgs s__law_stream) (defBody s__law_stream) (defScope s__law_stream) .none kV13 dc13 pm13 an13 cd13 ct13), sl13⟩) (c13 : PySem.W.codeIn K cd13 "_law_stream" = true) (k13 : PySem.W.keepIn K (.ref f13) = true)
    (a14 : PySem.W.nsIn K mainGlobals "_law_next" = some (some (.ref f14))) (l14 : K.lookup f14 = some ⟨oc14, od14, .func (PySem.W.fnOf "_law_next" "_law_next" (defArgs s__law_next) (defBody s__law_next) (defScope s__law_next) .none kV14 dc14 pm14 an14 cd14 ct14), sl14⟩) (c14 : PySem.W.codeIn K cd14 "_law_next" = true) (k14 : PySem.W.keepIn K (.ref f14) = true)
    (a15 : PySem.W.nsIn K mainGlobals "_law_divisor" = some (some (.ref f15))) (l15 : K.lookup f15 = some ⟨oc15, od15, .func (PySem.W.fnOf "_law_divisor" "_law_divisor" (defArgs s__law_divisor) (defBody s__law_divisor) (defScope s__law_divisor) .none kV15 dc15 pm15 an15 cd15 ct15), sl15⟩) (c15 : PySem.W.codeIn K cd15 "_law_divisor" = true) (k15 : PySem.W.keepIn K (.ref f15) = true)
    (a16 : PySem.W.nsIn K mainGlobals "_law_fraction" = some (some (.ref f16))) (l16 : K.lookup f16 = some ⟨oc16, od16, .func (PySem.W.fnOf "_law_fraction" "_law_fraction" (defArgs s__law_fraction) (defBody s__law_fraction) (defScope s__law_fraction) .none kV16 dc16 pm16 an16 cd16 ct16), sl16⟩) (c16 : PySem.W.codeIn K cd16 "_law_fraction" = true) (k16 : PySem.W.keepIn K (.ref f16) = true)
    (a17 : PySem.W.nsIn K mainGlobals "_law_weight" = some (some (.ref f17))) (l17 : K.lookup f17 = some ⟨oc17, od17, .func (PySem.W.fnOf "_law_weight" "_law_weight" (defArgs s__law_weight) (defBody s__law_weight) (defScope s__law_weight) .none kV17 dc17 pm17 an17 cd17 ct17), sl17⟩) (c17 : PySem.W.codeIn K cd17 "_law_weight" = true) (k17 : PySem.W.keepIn K (.ref f17) = true)
    (a18 : PySem.W.nsIn K mainGlobals "_law_web" = some (some (.ref f18))) (l18 : K.lookup f18 = some ⟨oc18, od18, .func (PySem.W.fnOf "_law_web" "_law_web" (defArgs s__law_web) (defBody s__law_web) (defScope s__law_web) .none kV18 dc18 pm18 an18 cd18 ct18), sl18⟩) (c18 : PySem.W.codeIn K cd18 "_law_web" = true) (k18 : PySem.W.keepIn K (.ref f18) = true)
    (a19 : PySem.W.nsIn K mainGlobals "_law_sum" = some (some (.ref f19))) (l19 : K.lookup f19 = some ⟨oc19, od19, .func (PySem.W.fnOf "_law_sum" "_law_sum" (defArgs s__law_sum) (defBody s__law_sum) (defScope s__law_sum) .none kV19 dc19 pm19 an19 cd19 ct19), sl19⟩) (c19 : PySem.W.codeIn K cd19 "_law_sum" = true) (k19 : PySem.W.keepIn K (.ref f19) = true)
    (a20 : PySem.W.nsIn K mainGlobals "_law_weight_of" = some (some (.ref f20))) (l20 : K.lookup f20 = some ⟨oc20, od20, .func (PySem.W.fnOf "_law_weight_of" "_law_weight_of" (defArgs s__law_weight_of) (defBody s__law_weight_of) (defScope s__law_weight_of) .none kV20 dc20 pm20 an20 cd20 ct20), sl20⟩) (c20 : PySem.W.codeIn K cd20 "_law_weight_of" = true) (k20 : PySem.W.keepIn K (.ref f20) = true)
    (a21 : PySem.W.nsIn K mainGlobals "_law_is_right" = some (some (.ref f21))) (l21 : K.lookup f21 = some ⟨oc21, od21, .func (PySem.W.fnOf "_law_is_right" "_law_is_right" (defArgs s__law_is_right) (defBody s__law_is_right) (defScope s__law_is_right) .none kV21 dc21 pm21 an21 cd21 ct21), sl21⟩) (c21 : PySem.W.codeIn K cd21 "_law_is_right" = true) (k21 : PySem.W.keepIn K (.ref f21) = true)
    (a22 : PySem.W.nsIn K mainGlobals "law" = some (some (.ref f22))) (l22 : K.lookup f22 = some ⟨oc22, od22, .func (PySem.W.fnOf "law" "law" (defArgs s_law) (defBody s_law) (defScope s_law) .none kV22 dc22 pm22 an22 cd22 ct22), sl22⟩) (c22 : PySem.W.codeIn K cd22 "law" = true) (k22 : PySem.W.keepIn K (.ref f22) = true)
    (z0 : PySem.W.nsIn K mainGlobals "abs" = some none) (z1 : PySem.W.nsIn K mainGlobals "list" = some none) (z2 : PySem.W.nsIn K mainGlobals "len" = some none) (z3 : PySem.W.nsIn K mainGlobals "zip" = some none) (z4 : PySem.W.nsIn K mainGlobals "range" = some none) (z5 : PySem.W.nsIn K mainGlobals "tuple" = some none) :
    ∃ fd : FuncData, (∀ (s : Shared) (v : Value), BindsTo s fd ⟨[v], []⟩ [("_law_script", v)]) ∧ ∀ base : Heap, K.In base → base.Ns mainGlobals mg → FnOk l.prog w K mg base CX0 7 fa fd ["_law_script"] (SpD K Φ_law) := by
  have B : ∀ x, x ∈ blt → mg x = none := by
    intro x hx
    simp only [blt, List.mem_cons, List.not_mem_nil, or_false] at hx
    rcases hx with rfl | rfl | rfl | rfl | rfl | rfl
    · exact PySem.W.mg_none_of X G z0
    · exact PySem.W.mg_none_of X G z1
    · exact PySem.W.mg_none_of X G z2
    · exact PySem.W.mg_none_of X G z3
    · exact PySem.W.mg_none_of X G z4
    · exact PySem.W.mg_none_of X G z5
  have e := hfa.symm.trans (PySem.W.mg_of X G a22)
  cases e
  have F1 := fun_mk (st := s_common_divisor) l1 c1 k1
  have F2 := fun_mk (st := s_as_fraction) l2 c2 k2
  have F3 := fun_mk (st := s_plus) l3 c3 k3
  have F4 := fun_mk (st := s_added) l4 c4 k4
  have F5 := fun_mk (st := s_size_of) l5 c5 k5
  have F6 := fun_mk (st := s_is_gainful) l6 c6 k6
  have F7 := fun_mk (st := s_top_of) l7 c7 k7
  have F8 := fun_mk (st := s_is_cut) l8 c8 k8
  have F9 := fun_mk (st := s_cut_ties) l9 c9 k9
  have F10 := fun_mk (st := s_lost_ties) l10 c10 k10
  have F11 := fun_mk (st := s_weight_of) l11 c11 k11
  have F12 := fun_mk (st := s__law_cell_at) l12 c12 k12
  have F13 := fun_mk (st := s__law_stream) l13 c13 k13
  have F14 := fun_mk (st := s__law_next) l14 c14 k14
  have F15 := fun_mk (st := s__law_divisor) l15 c15 k15
  have F16 := fun_mk (st := s__law_fraction) l16 c16 k16
  have F17 := fun_mk (st := s__law_weight) l17 c17 k17
  have F18 := fun_mk (st := s__law_web) l18 c18 k18
  have F19 := fun_mk (st := s__law_sum) l19 c19 k19
  have F20 := fun_mk (st := s__law_weight_of) l20 c20 k20
  have F21 := fun_mk (st := s__law_is_right) l21 c21 k21
  have F22 := fun_mk (st := s_law) l22 c22 k22
  have g_common_divisor : ∀ base : Heap, Kn l.prog w K mg base "common_divisor" 1 ["one", "other"] Φ_common_divisor := fun base => ok_common_divisor F1 (PySem.W.mg_of X G a1) B
  have g_as_fraction : ∀ base : Heap, Kn l.prog w K mg base "as_fraction" 2 ["top", "bottom"] Φ_as_fraction := fun base => ok_as_fraction F2 (PySem.W.mg_of X G a2) B (g_common_divisor base)
  have g_plus : ∀ base : Heap, Kn l.prog w K mg base "plus" 3 ["one", "other"] Φ_plus := fun base => ok_plus F3 (PySem.W.mg_of X G a3) B (g_as_fraction base)
  have g_added : ∀ base : Heap, Kn l.prog w K mg base "added" 4 ["terms"] Φ_added := fun base => ok_added F4 (PySem.W.mg_of X G a4) B (g_plus base)
  have g_size_of : ∀ base : Heap, Kn l.prog w K mg base "size_of" 1 ["web", "tie"] Φ_size_of := fun base => ok_size_of F5 (PySem.W.mg_of X G a5) B
  have g_is_gainful : ∀ base : Heap, Kn l.prog w K mg base "is_gainful" 1 ["web", "tie"] Φ_is_gainful := fun base => ok_is_gainful F6 (PySem.W.mg_of X G a6) B
  have g_top_of : ∀ base : Heap, Kn l.prog w K mg base "top_of" 5 ["web"] Φ_top_of := fun base => ok_top_of F7 (PySem.W.mg_of X G a7) B (g_added base)
  have g_is_cut : ∀ base : Heap, Kn l.prog w K mg base "is_cut" 1 ["web", "side", "tie"] Φ_is_cut := fun base => ok_is_cut F8 (PySem.W.mg_of X G a8) B
  have g_cut_ties : ∀ base : Heap, Kn l.prog w K mg base "cut_ties" 2 ["web", "side"] Φ_cut_ties := fun base => ok_cut_ties F9 (PySem.W.mg_of X G a9) B (g_is_cut base)
  have g_lost_ties : ∀ base : Heap, Kn l.prog w K mg base "lost_ties" 2 ["web", "side"] Φ_lost_ties := fun base => ok_lost_ties F10 (PySem.W.mg_of X G a10) B (g_is_cut base) (g_is_gainful base)
  have g_weight_of : ∀ base : Heap, Kn l.prog w K mg base "weight_of" 5 ["web", "side"] Φ_weight_of := fun base => ok_weight_of F11 (PySem.W.mg_of X G a11) B (g_added base) (g_cut_ties base)
  have g__law_cell_at : ∀ base : Heap, Kn l.prog w K mg base "_law_cell_at" 1 ["_law_script", "_law_k"] Φ__law_cell_at := fun base => ok__law_cell_at F12 (PySem.W.mg_of X G a12) B
  have g__law_stream : ∀ base : Heap, Kn l.prog w K mg base "_law_stream" 1 ["_law_cell", "_law_many"] Φ__law_stream := fun base => ok__law_stream F13 (PySem.W.mg_of X G a13) B
  have g__law_next : ∀ base : Heap, Kn l.prog w K mg base "_law_next" 1 ["_law_xs", "_law_many"] Φ__law_next := fun base => ok__law_next F14 (PySem.W.mg_of X G a14) B
  have g__law_divisor : ∀ base : Heap, Kn l.prog w K mg base "_law_divisor" 1 ["_law_one", "_law_other"] Φ__law_divisor := fun base => ok__law_divisor F15 (PySem.W.mg_of X G a15) B
  have g__law_fraction : ∀ base : Heap, Kn l.prog w K mg base "_law_fraction" 2 ["_law_top", "_law_bottom"] Φ__law_fraction := fun base => ok__law_fraction F16 (PySem.W.mg_of X G a16) B (g__law_divisor base)
  have g__law_weight : ∀ base : Heap, Kn l.prog w K mg base "_law_weight" 3 ["_law_xs", "_law_manner"] Φ__law_weight := fun base => ok__law_weight F17 (PySem.W.mg_of X G a17) B (g__law_next base) (g__law_fraction base)
  have g__law_web : ∀ base : Heap, Kn l.prog w K mg base "_law_web" 4 ["_law_xs", "_law_least", "_law_most"] Φ__law_web := fun base => ok__law_web F18 (PySem.W.mg_of X G a18) B (g__law_next base) (g__law_weight base)
  have g__law_sum : ∀ base : Heap, Kn l.prog w K mg base "_law_sum" 3 ["_law_fractions"] Φ__law_sum := fun base => ok__law_sum F19 (PySem.W.mg_of X G a19) B (g__law_fraction base)
  have g__law_weight_of : ∀ base : Heap, Kn l.prog w K mg base "_law_weight_of" 4 ["_law_web_here", "_law_side"] Φ__law_weight_of := fun base => ok__law_weight_of F20 (PySem.W.mg_of X G a20) B (g__law_sum base)
  have g__law_is_right : ∀ base : Heap, Kn l.prog w K mg base "_law_is_right" 6 ["_law_web_here", "_law_side"] Φ__law_is_right := fun base => ok__law_is_right F21 (PySem.W.mg_of X G a21) B (g_lost_ties base) (g_cut_ties base) (g_size_of base) (g__law_sum base) (g_top_of base) (g__law_weight_of base) (g_weight_of base)
  exact ⟨PySem.W.fnOf "law" "law" (defArgs s_law) (defBody s_law) (defScope s_law) .none kV22 dc22 pm22 an22 cd22 ct22, fun s v => .of_eq rfl, fun base _ _ => ok_of F22 sc_law len_law (by decide) (fun cdv A outer s H E hr => ⟨_, dv_law hr B (g__law_stream base) (g__law_cell_at base) (g__law_web base) (g__law_next base) (g__law_is_right base), rd_law⟩)⟩
end K04
open PySem PySem.W PyProof.Rows
set_option maxRecDepth 100000 in
set_option maxHeartbeats 0 in
theorem PySem.Challenge.cw_heavycut_k04_lost_ties_holds : PySem.Challenge.rw_heavycut_k04_lost_ties.Holds := by
  w_on; o_law; k_head; (case hw => w_witness2)
  k_fill
  refine L2.walk_of (l := PySem.Challenge.rw_heavycut_k04_lost_ties) (n := 63) (k := 7) (x := "_law_script") (CX := fun _ => L2.CX0) (sp := fun w => Hc.SpD _ K04.Φ_law) rfl (by decide) rfl ⟨rfl, by decide, by decide⟩ (fun w h Y => PySem.W.kIn_of Y) ?F (fun _ _ a ns hl hO hS => K04.law_at hl hO hS) (fun _ _ _ _ _ h => h)
  case F =>
    intro w mg fa h KX G hmg
    refine' K04.all_mk KX G hmg ?a1 ?l1 ?c1 ?k1 ?a2 ?l2 ?c2 ?k2 ?a3 ?l3 ?c3 ?k3 ?a4 ?l4 ?c4 ?k4 ?a5 ?l5 ?c5 ?k5 ?a6 ?l6 ?c6 ?k6 ?a7 ?l7 ?c7 ?k7 ?a8 ?l8 ?c8 ?k8 ?a9 ?l9 ?c9 ?k9 ?a10 ?l10 ?c10 ?k10 ?a11 ?l11 ?c11 ?k11 ?a12 ?l12 ?c12 ?k12 ?a13 ?l13 ?c13 ?k13 ?a14 ?l14 ?c14 ?k14 ?a15 ?l15 ?c15 ?k15 ?a16 ?l16 ?c16 ?k16 ?a17 ?l17 ?c17 ?k17 ?a18 ?l18 ?c18 ?k18 ?a19 ?l19 ?c19 ?k19 ?a20 ?l20 ?c20 ?k20 ?a21 ?l21 ?c21 ?k21 ?a22 ?l22 ?c22 ?k22 ?z0 ?z1 ?z2 ?z3 ?z4 ?z5
    (case a1 => k_is); (case l1 => k_is); (case c1 => k_is); (case k1 => k_is); (case a2 => k_is); (case l2 => k_is); (case c2 => k_is); (case k2 => k_is); (case a3 => k_is); (case l3 => k_is); (case c3 => k_is); (case k3 => k_is); (case a4 => k_is); (case l4 => k_is); (case c4 => k_is); (case k4 => k_is); (case a5 => k_is); (case l5 => k_is); (case c5 => k_is); (case k5 => k_is); (case a6 => k_is); (case l6 => k_is); (case c6 => k_is); (case k6 => k_is); (case a7 => k_is); (case l7 => k_is); (case c7 => k_is); (case k7 => k_is); (case a8 => k_is); (case l8 => k_is); (case c8 => k_is); (case k8 => k_is); (case a9 => k_is); (case l9 => k_is); (case c9 => k_is); (case k9 => k_is); (case a10 => k_is); (case l10 => k_is); (case c10 => k_is); (case k10 => k_is); (case a11 => k_is); (case l11 => k_is); (case c11 => k_is); (case k11 => k_is); (case a12 => k_is); (case l12 => k_is); (case c12 => k_is); (case k12 => k_is); (case a13 => k_is); (case l13 => k_is); (case c13 => k_is); (case k13 => k_is); (case a14 => k_is); (case l14 => k_is); (case c14 => k_is); (case k14 => k_is); (case a15 => k_is); (case l15 => k_is); (case c15 => k_is); (case k15 => k_is); (case a16 => k_is); (case l16 => k_is); (case c16 => k_is); (case k16 => k_is); (case a17 => k_is); (case l17 => k_is); (case c17 => k_is); (case k17 => k_is); (case a18 => k_is); (case l18 => k_is); (case c18 => k_is); (case k18 => k_is); (case a19 => k_is); (case l19 => k_is); (case c19 => k_is); (case k19 => k_is); (case a20 => k_is); (case l20 => k_is); (case c20 => k_is); (case k20 => k_is); (case a21 => k_is); (case l21 => k_is); (case c21 => k_is); (case k21 => k_is); (case a22 => k_is); (case l22 => k_is); (case c22 => k_is); (case k22 => k_is); (case z0 => k_is); (case z1 => k_is); (case z2 => k_is); (case z3 => k_is); (case z4 => k_is); (case z5 => k_is)
#print axioms PySem.Challenge.cw_heavycut_k04_lost_ties_holds
