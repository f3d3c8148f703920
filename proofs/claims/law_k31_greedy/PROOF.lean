import PyProof.Rows.All
import Wide.All
import OpenK.AllK
import Wide.FinOn
import HandS.ForMost
import HandS.Wide
import HandS.Style
import HandS.IsInst
import HandS.Flow
import HandS.TryOnly
import HandS.TupMul
import HandS.ForExc
import HandS.ExcIs
import HandS.Zip
import HandS.SortInts
import HandS.SetFor
import HandS.Conv
import HandS.Walk
import KE.GoesEnum
import HandS.SortOrd
import HandS.Deep
import KE.SortData
import HandS.TupAny
import HandS.NoneIn
import KE.GoesMore
import KE.GoesZip
import PySem.Challenge.RW_heavycut_k31_greedy
set_option Elab.async false
set_option linter.all false
set_option maxRecDepth 100000
set_option maxHeartbeats 4000000
namespace Hc
open PySem PySem.Spec PyProof.Rows L2

/-! ### data in the heap, apart from the things L that may change -/
mutual
inductive Rp (L : List Addr) (H : Hp) : V → PyData → Prop
  | non : Rp L H .non .none
  | bl (b : Bool) : Rp L H (.bl b) (.bool b)
  | int (i : Int) : Rp L H (.int i) (.int i)
  | str (x : Str) : Rp L H (.str x) (.str x)
  | lst {a : Addr} {xs : List V} {ds : List PyData} : a ∉ L → H a = some (.lst xs) → RpA L H xs ds → Rp L H (.ref a) (.list ds)
  | tup {a : Addr} {xs : List V} {ds : List PyData} : a ∉ L → H a = some (.tup xs) → RpA L H xs ds → Rp L H (.ref a) (.tuple ds)
  | dct {a : Addr} {kvs : List (Key × V)} {ds : List (PyData × PyData)} : a ∉ L → H a = some (.dK kvs) → Rp L H (.ref a) (.dict ds)
inductive RpA (L : List Addr) (H : Hp) : List V → List PyData → Prop
  | nil : RpA L H [] []
  | cons {v : V} {vs : List V} {d : PyData} {ds : List PyData} : Rp L H v d → RpA L H vs ds → RpA L H (v :: vs) (d :: ds)
end
/-- what is outside L stays, and stays outside L' -/
def To (L L' : List Addr) (H H' : Hp) : Prop := ∀ a o, a ∉ L → H a = some o → a ∉ L' ∧ H' a = some o
mutual
theorem Rp.to {L L' : List Addr} {H H' : Hp} (w : To L L' H H') : ∀ (d : PyData) (v : V), Rp L H v d → Rp L' H' v d
  | .none, _, h => by cases h; exact .non
  | .bool b, _, h => by cases h; exact .bl b
  | .int i, _, h => by cases h; exact .int i
  | .str x, _, h => by cases h; exact .str x
  | .list ds, _, h => by
    cases h with
    | lst n e r => exact .lst (w _ _ n e).1 (w _ _ n e).2 (RpA.to w ds _ r)
  | .tuple ds, _, h => by
    cases h with
    | tup n e r => exact .tup (w _ _ n e).1 (w _ _ n e).2 (RpA.to w ds _ r)
  | .dict ds, _, h => by
    cases h with
    | dct n e => exact .dct (w _ _ n e).1 (w _ _ n e).2
theorem RpA.to {L L' : List Addr} {H H' : Hp} (w : To L L' H H') : ∀ (ds : List PyData) (vs : List V), RpA L H vs ds → RpA L' H' vs ds
  | [], _, h => by cases h; exact .nil
  | d :: ds, _, h => by
    cases h with
    | cons a b => exact .cons (Rp.to w d _ a) (RpA.to w ds _ b)
end
def Wk (L : List Addr) (H H' : Hp) : Prop := ∀ a o, a ∉ L → H a = some o → H' a = some o
theorem Wk.refl (L : List Addr) (H : Hp) : Wk L H H := fun _ _ _ h => h
theorem Wk.trans {L : List Addr} {H H1 H2 : Hp} (a : Wk L H H1) (b : Wk L H1 H2) : Wk L H H2 := fun x o n h => b x o n (a x o n h)
theorem Wk.to {L : List Addr} {H H' : Hp} (w : Wk L H H') : To L L H H' := fun a o n h => ⟨n, w a o n h⟩
theorem Wk.new {L : List Addr} {H : Hp} {p : Addr} {o : HO} (h : H p = none) : Wk L H (upd H p o) := fun a u _ e => by
  rw [upd_ne (ne_of_none e h)]; exact e
theorem Wk.mut {L : List Addr} {H : Hp} {p : Addr} {o : HO} (h : p ∈ L) : Wk L H (upd H p o) := fun a u n e => by
  rw [upd_ne (fun z : a = p => n (by rw [z]; exact h))]; exact e
theorem Rp.mono {L : List Addr} {H H' : Hp} (w : Wk L H H') {d : PyData} {v : V} (h : Rp L H v d) : Rp L H' v d := Rp.to w.to d v h
theorem RpA.mono {L : List Addr} {H H' : Hp} (w : Wk L H H') {ds : List PyData} {vs : List V} (h : RpA L H vs ds) : RpA L H' vs ds := RpA.to w.to ds vs h
theorem RpA.append {L : List Addr} {H : Hp} : ∀ {xs ys : List V} {ds es : List PyData}, RpA L H xs ds → RpA L H ys es → RpA L H (xs ++ ys) (ds ++ es)
  | _, _, _, _, .nil, h => h
  | _, _, _, _, .cons a b, h => .cons a (RpA.append b h)
theorem RpA.length {L : List Addr} {H : Hp} : ∀ {xs : List V} {ds : List PyData}, RpA L H xs ds → xs.length = ds.length
  | _, _, .nil => rfl
  | _, _, .cons _ b => by simp [RpA.length b]
theorem RpA.get {L : List Addr} {H : Hp} : ∀ {xs : List V} {ds : List PyData} {i : Nat} {d : PyData}, RpA L H xs ds → ds[i]? = some d → ∃ v, xs[i]? = some v ∧ Rp L H v d
  | _, _, _, _, .nil, e => by simp at e
  | _, _, 0, _, .cons a _, e => by simp at e; subst e; exact ⟨_, rfl, a⟩
  | _, _, i + 1, d, .cons _ b, e => by
    obtain ⟨v, h1, h2⟩ := RpA.get (i := i) (d := d) b (by simpa using e)
    exact ⟨v, by simpa using h1, h2⟩
theorem RpA.get' {L : List Addr} {H : Hp} : ∀ {xs : List V} {ds : List PyData} {i : Nat} {v : V}, RpA L H xs ds → xs[i]? = some v → ∃ d, ds[i]? = some d ∧ Rp L H v d
  | _, _, _, _, .nil, e => by simp at e
  | _, _, 0, _, .cons a _, e => by simp at e; subst e; exact ⟨_, rfl, a⟩
  | _, _, i + 1, v, .cons _ b, e => by
    obtain ⟨d, h1, h2⟩ := RpA.get' (i := i) (v := v) b (by simpa using e)
    exact ⟨d, by simpa using h1, h2⟩
theorem RpA.take {L : List Addr} {H : Hp} : ∀ {xs : List V} {ds : List PyData} (n : Nat), RpA L H xs ds → RpA L H (xs.take n) (ds.take n)
  | _, _, 0, _ => by simp only [List.take_zero]; exact .nil
  | _, _, n + 1, .nil => .nil
  | _, _, n + 1, .cons a b => .cons a (RpA.take n b)
theorem RpA.drop {L : List Addr} {H : Hp} : ∀ {xs : List V} {ds : List PyData} (n : Nat), RpA L H xs ds → RpA L H (xs.drop n) (ds.drop n)
  | _, _, 0, h => h
  | _, _, n + 1, .nil => .nil
  | _, _, n + 1, .cons _ b => RpA.drop n b
theorem RpA.set {L : List Addr} {H : Hp} : ∀ {xs : List V} {ds : List PyData} {v : V} {d : PyData} (n : Nat), RpA L H xs ds → Rp L H v d → RpA L H (xs.set n v) (ds.set n d)
  | _, _, _, _, _, .nil, _ => .nil
  | _, _, _, _, 0, .cons _ b, h => .cons h b
  | _, _, _, _, n + 1, .cons a b, h => .cons a (RpA.set n b h)
theorem RpA.reverse {L : List Addr} {H : Hp} : ∀ {xs : List V} {ds : List PyData}, RpA L H xs ds → RpA L H xs.reverse ds.reverse
  | _, _, .nil => .nil
  | _, _, .cons a b => by
    rw [List.reverse_cons, List.reverse_cons]
    exact (RpA.reverse b).append (.cons a .nil)
theorem RpA.ints {L : List Addr} {H : Hp} : ∀ (ns : List Int), RpA L H (ns.map V.int) (ns.map PyData.int)
  | [] => .nil
  | n :: r => .cons (.int n) (RpA.ints r)
theorem RpA.ints_inv {L : List Addr} {H : Hp} : ∀ {ns : List Int} {xs : List V}, RpA L H xs (ns.map PyData.int) → xs = ns.map V.int
  | [], _, h => by cases h; rfl
  | n :: r, _, h => by
    cases h with
    | cons a b => cases a; rw [RpA.ints_inv b]; rfl
theorem RpA.bools_inv {L : List Addr} {H : Hp} : ∀ {ns : List Bool} {xs : List V}, RpA L H xs (ns.map PyData.bool) → xs = ns.map V.bl
  | [], _, h => by cases h; rfl
  | n :: r, _, h => by
    cases h with
    | cons a b => cases a; rw [RpA.bools_inv b]; rfl
mutual
theorem Rp.dp {K : PySem.W.Frag} {L : List Addr} {H : Hp} : ∀ (d : PyData) (v : V), d.canLay0 = true → Rp L H v d → Dp K H v d
  | .none, _, _, h => by cases h; exact .non
  | .bool b, _, _, h => by cases h; exact .bl b
  | .int i, _, _, h => by cases h; exact .int i
  | .str x, _, _, h => by cases h; exact .str x
  | .list ds, _, c, h => by
    cases h with
    | lst n e r => exact .lst (SqL.of e) (RpA.dp ds _ (by simpa [PyData.canLay0] using c) r)
  | .tuple ds, _, c, h => by
    cases h with
    | tup n e r => exact .tup (SqT.of e) (RpA.dp ds _ (by simpa [PyData.canLay0] using c) r)
  | .dict ds, _, c, h => by simp [PyData.canLay0] at c
theorem RpA.dp {K : PySem.W.Frag} {L : List Addr} {H : Hp} : ∀ (ds : List PyData) (vs : List V), PyData.canLayAll0 ds = true → RpA L H vs ds → DpAll K H vs ds
  | [], _, _, h => by cases h; exact .nil
  | d :: ds, _, c, h => by
    cases h with
    | cons a b =>
      have c' : d.canLay0 = true ∧ PyData.canLayAll0 ds = true := by simpa [PyData.canLayAll0, Bool.and_eq_true] using c
      exact .cons (Rp.dp d _ c'.1 a) (RpA.dp ds _ c'.2 b)
end
/-- the type of a datum -/
def tyN : PyData → String
  | .none => "NoneType" | .bool _ => "bool" | .int _ => "int" | .str _ => "str" | .list _ => "list" | .tuple _ => "tuple" | .dict _ => "dict"
theorem Rp.ty {K : PySem.W.Frag} {L : List Addr} {H : Hp} {v : V} {d : PyData} (h : Rp L H v d) : TyX K H v (.type (tyN d)) := by
  cases h with
  | non => exact .base .non
  | bl b => exact .base (.bl b)
  | int i => exact .base (.int i)
  | str x => exact .base (.str x)
  | lst n e r => exact .base (.lst e)
  | tup n e r => exact .base (.tup e)
  | dct n e => exact .base (.dK e)


theorem Rp.keep {L M : List Addr} {H H' : Hp} (sub : ∀ p ∈ L, p ∈ M) (w : Wk L H H') {d : PyData} {v : V} (h : Rp M H v d) : Rp M H' v d := Rp.to (fun a o n e => ⟨n, w a o (fun z => n (sub a z)) e⟩) d v h
theorem RpA.keep {L M : List Addr} {H H' : Hp} (sub : ∀ p ∈ L, p ∈ M) (w : Wk L H H') {ds : List PyData} {vs : List V} (h : RpA M H vs ds) : RpA M H' vs ds := RpA.to (fun a o n e => ⟨n, w a o (fun z => n (sub a z)) e⟩) ds vs h

/-! ### slots, things that may change -/
inductive SD where
  | u | d (x : PyData) | m (k : Nat) | f (es : List PyData) | s (ns : List Int) | v (x : V)
inductive MD where
  | l (es : List PyData)
  | r (ks : List Nat)
section
variable {K : PySem.W.Frag}
def MOk (L M : List Addr) (H : Hp) (j : Nat) (p : Addr) : MD → Prop
  | .l es => ∃ xs, H p = some (.lst xs) ∧ RpA M H xs es
  | .r ks => ∃ ps : List Addr, H p = some (.lst (ps.map V.ref)) ∧ ps.length = ks.length ∧ ∀ (i k : Nat) (q : Addr), ks[i]? = some k → ps[i]? = some q → L[k]? = some q ∧ k < j
/-- L: what may change, as ms tells it; M: all that is no part of data -/
structure At (L M : List Addr) (ms : List MD) (H : Hp) : Prop where
  nd : L.Nodup
  sub : ∀ p ∈ L, p ∈ M
  al : ∀ p ∈ M, H p ≠ none
  ln : L.length = ms.length
  ok : ∀ (k : Nat) (p : Addr) (m : MD), L[k]? = some p → ms[k]? = some m → MOk L M H k p m
section
variable {L M : List Addr} {ms : List MD} {H H' : Hp}
theorem MOk.toL {L L' M M' : List Addr} {p : Addr} {j : Nat} {m : MD} (t : To M M' H H') (hl : ∀ (k : Nat) (q : Addr), k < j → L[k]? = some q → L'[k]? = some q) (e : H' p = H p) (h : MOk L M H j p m) : MOk L' M' H' j p m := by
  cases m with
  | l es =>
    obtain ⟨xs, e1, r⟩ := h
    exact ⟨xs, by rw [e]; exact e1, RpA.to t _ _ r⟩
  | r ks =>
    obtain ⟨ps, e1, ln, r⟩ := h
    exact ⟨ps, by rw [e]; exact e1, ln, fun i k q h1 h2 => ⟨hl k q (r i k q h1 h2).2 (r i k q h1 h2).1, (r i k q h1 h2).2⟩⟩
theorem MOk.to {L M M' : List Addr} {p : Addr} {j : Nat} {m : MD} (t : To M M' H H') (e : H' p = H p) (h : MOk L M H j p m) : MOk L M' H' j p m := h.toL t (fun _ _ _ q => q) e
theorem MOk.lst {L M : List Addr} {p : Addr} {j : Nat} {m : MD} (h : MOk L M H j p m) : ∃ xs, H p = some (.lst xs) := by
  cases m with
  | l es =>
    obtain ⟨xs, e1, r⟩ := h
    exact ⟨xs, e1⟩
  | r ks =>
    obtain ⟨ps, e1, _⟩ := h
    exact ⟨_, e1⟩
theorem At.fresh (h : At L M ms H) {p : Addr} (e : H p = none) : p ∉ M := fun z => h.al p z e
theorem At.freshL (h : At L M ms H) {p : Addr} (e : H p = none) : p ∉ L := fun z => h.fresh e (h.sub p z)
theorem At.wk (h : At L M ms H) (w : Wk L H H') : To M M H H' := fun a o n e => ⟨n, w a o (fun z => n (h.sub a z)) e⟩
theorem At.new (h : At L M ms H) {p : Addr} {o : HO} (e : H p = none) : At L M ms (upd H p o) := by
  have ne : ∀ q, q ∈ M → q ≠ p := fun q hq z => h.fresh e (z ▸ hq)
  refine ⟨h.nd, h.sub, fun q hq => by rw [upd_ne (ne q hq)]; exact h.al q hq, h.ln, fun k q m e1 e2 => ?_⟩
  exact (h.ok k q m e1 e2).to (h.wk (Wk.new e)) (upd_ne (ne q (h.sub q (List.mem_of_getElem? e1))))
theorem At.put (h : At L M ms H) {k : Nat} {p : Addr} {xs : List V} {es : List PyData} (hk : L[k]? = some p) (r : RpA M H xs es) : At L M (ms.set k (.l es)) (upd H p (.lst xs)) := by
  have hp : p ∈ L := List.mem_of_getElem? hk
  have t : To M M H (upd H p (.lst xs)) := h.wk (Wk.mut hp)
  refine ⟨h.nd, h.sub, fun q hq => ?_, by rw [List.length_set]; exact h.ln, fun j q m e1 e2 => ?_⟩
  · by_cases e : q = p
    · subst e; rw [upd_same]; exact fun z => nomatch z
    · rw [upd_ne e]; exact h.al q hq
  · by_cases hj : j = k
    · subst hj
      rw [e1] at hk
      cases hk
      have hl : j < ms.length := by rw [← h.ln]; exact (List.getElem?_eq_some_iff.mp e1).1
      rw [List.getElem?_set_self hl] at e2
      cases e2
      exact ⟨xs, upd_same, RpA.to t _ _ r⟩
    · rw [List.getElem?_set_ne (Ne.symm hj)] at e2
      have hq : q ≠ p := fun z => by
        subst z
        obtain ⟨l1, e1'⟩ := List.getElem?_eq_some_iff.mp e1
        obtain ⟨l2, e2'⟩ := List.getElem?_eq_some_iff.mp hk
        exact hj ((List.getElem_inj h.nd).mp (e1'.trans e2'.symm))
      exact (h.ok j q m e1 e2).to t (upd_ne hq)
theorem At.get (h : At L M ms H) {k : Nat} {p : Addr} {es : List PyData} (hk : L[k]? = some p) (e : ms[k]? = some (.l es)) : ∃ xs, H p = some (.lst xs) ∧ RpA M H xs es := h.ok k p _ hk e
/-- a new thing that may change -/
theorem to_new {p : Addr} (h : At L M ms H) (hp : H p = none) (w : Wk L H H') : To M (M ++ [p]) H H' := fun a o n e =>
  ⟨fun z => (List.mem_append.mp z).elim n fun z => ne_of_none e hp (by simpa using z), w a o (fun z => n (h.sub a z)) e⟩
theorem At.grow {p : Addr} {xs : List V} {es : List PyData} (h : At L M ms H) (hp : H p = none) (r : RpA M H xs es) : At (L ++ [p]) (M ++ [p]) (ms ++ [.l es]) (upd H p (.lst xs)) := by
  have n := h.freshL hp
  have t : To M (M ++ [p]) H (upd H p (.lst xs)) := to_new h hp (Wk.new hp)
  refine ⟨List.nodup_append.mpr ⟨h.nd, by simp, fun a ha b hb e => n (by simp at hb; subst hb e; exact ha)⟩, ?_, ?_, by simp [h.ln], fun k q m e1 e2 => ?_⟩
  · intro q hq
    rcases List.mem_append.mp hq with z | z
    · exact List.mem_append_left _ (h.sub q z)
    · exact List.mem_append_right _ z
  · intro q hq
    by_cases e : q = p
    · subst e; rw [upd_same]; exact fun z => nomatch z
    · rw [upd_ne e]
      rcases List.mem_append.mp hq with z | z
      · exact h.al q z
      · exact absurd (by simpa using z) e
  · by_cases hk : k < L.length
    · rw [List.getElem?_append_left hk] at e1
      rw [List.getElem?_append_left (by rw [← h.ln]; exact hk)] at e2
      have hq : q ≠ p := fun z => n (z ▸ List.mem_of_getElem? e1)
      exact (h.ok k q m e1 e2).toL t (fun k' q' _ z => by rw [List.getElem?_append_left (List.getElem?_eq_some_iff.mp z).1]; exact z) (upd_ne hq)
    · have hk2 : k = L.length := by
        have := (List.getElem?_eq_some_iff.mp e1).1
        simp at this
        omega
      subst hk2
      simp at e1
      subst e1
      rw [h.ln] at e2
      simp at e2
      subst e2
      exact ⟨xs, upd_same, RpA.to t _ _ r⟩
theorem to_less {p : Addr} : To (M ++ [p]) M H H := fun a o n e => ⟨fun z => n (List.mem_append_left _ z), e⟩
theorem At.drop {p : Addr} {m : MD} (h : At (L ++ [p]) (M ++ [p]) (ms ++ [m]) H) (hl : ∀ q ∈ L, q ∈ M) : At L M ms H :=
  ⟨(List.nodup_append.mp h.nd).1, hl, fun q hq => h.al q (List.mem_append_left _ hq), by have := h.ln; simp at this; exact this, fun k q x e1 e2 => by
    have h1 : k < L.length := (List.getElem?_eq_some_iff.mp e1).1
    have h2 : k < ms.length := (List.getElem?_eq_some_iff.mp e2).1
    exact (h.ok k q x (by rw [List.getElem?_append_left h1]; exact e1) (by rw [List.getElem?_append_left h2]; exact e2)).toL to_less (fun k' q' hlt z => by rw [List.getElem?_append_left (by omega)] at z; exact z) rfl⟩
theorem At.last {p : Addr} {es : List PyData} (h : At (L ++ [p]) (M ++ [p]) (ms ++ [.l es]) H) : ∃ xs, H p = some (.lst xs) ∧ RpA (M ++ [p]) H xs es := by
  have hl : L.length = ms.length := by have := h.ln; simp at this; exact this
  exact h.ok L.length p (.l es) (by simp) (by rw [hl]; simp)
end
def SlOk (K : PySem.W.Frag) (L M : List Addr) (H : Hp) : SD → V → Prop
  | .d x, v => Rp M H v x
  | .m k, v => ∃ p, v = .ref p ∧ L[k]? = some p
  | .s ns, v => ∃ a, v = .ref a ∧ ((a ∉ M ∧ Rd H a (.lst (ns.map V.int))) ∨ ∀ H' : Hp, SqL K H' a (ns.map V.int))
  | .v x, v => v = x
  | _, _ => False
section
variable {L M : List Addr} {ms : List MD} {H H' : Hp} {σ : L2.St} {ds : List SD}
theorem SlOk.to {L' M' : List Addr} (t : To M M' H H') (hl : ∀ (k : Nat) (p : Addr), L[k]? = some p → L'[k]? = some p) : ∀ {s : SD} {v : V}, SlOk K L M H s v → SlOk K L' M' H' s v
  | .d x, v, h => Rp.to t _ _ h
  | .m k, v, ⟨p, e, q⟩ => ⟨p, e, hl k p q⟩
  | .s ns, v, ⟨a, e, .inl ⟨n, q⟩⟩ => ⟨a, e, .inl (by
      rcases q with q | ⟨o, q⟩
      · exact ⟨(t _ _ n q).1, .inl (t _ _ n q).2⟩
      · exact ⟨(t _ _ n q).1, .inr ⟨o, (t _ _ n q).2⟩⟩)⟩
  | .s ns, v, ⟨a, e, .inr q⟩ => ⟨a, e, .inr q⟩
  | .v x, v, h => h
  | .u, _, h => h.elim
  | .f _, _, h => h.elim
theorem SlOk.mono (h : At L M ms H) (w : Wk L H H') {s : SD} {v : V} (r : SlOk K L M H s v) : SlOk K L M H' s v := r.to (h.wk w) fun _ _ e => e
def Sl (K : PySem.W.Frag) (L M : List Addr) (σ : L2.St) (H : Hp) (ds : List SD) : Prop := ∀ (i : Nat) (s : SD), ds[i]? = some s → match s with | .u => i < σ.length | s => ∃ v, σ[i]? = some (some v) ∧ SlOk K L M H s v
theorem Sl.lt (h : Sl K L M σ H ds) {i : Nat} (hi : i < ds.length) : i < σ.length := by
  have q := h i ds[i] (by simp [hi])
  split at q
  · exact q
  · obtain ⟨v, e, _⟩ := q
    exact (List.getElem?_eq_some_iff.mp e).1
theorem Sl.get (h : Sl K L M σ H ds) {i : Nat} {s : SD} (e : ds[i]? = some s) (n : s ≠ .u) : ∃ v, σ[i]? = some (some v) ∧ SlOk K L M H s v := by
  have q := h i s e
  split at q
  · exact absurd rfl n
  · exact q
theorem Sl.to {L' M' : List Addr} (t : To M M' H H') (hl : ∀ (k : Nat) (p : Addr), L[k]? = some p → L'[k]? = some p) (h : Sl K L M σ H ds) : Sl K L' M' σ H' ds := fun i s e => by
  have q := h i s e
  split at q
  · exact q
  · obtain ⟨v, e1, e2⟩ := q
    exact ⟨v, e1, e2.to t hl⟩
theorem Sl.mono (a : At L M ms H) (w : Wk L H H') (h : Sl K L M σ H ds) : Sl K L M σ H' ds := h.to (a.wk w) fun _ _ e => e
theorem Sl.set (h : Sl K L M σ H ds) (i : Nat) {s : SD} {v : V} (r : SlOk K L M H s v) : Sl K L M (σ.set i (some v)) H (ds.set i s) := fun j t e => by
  by_cases hj : j = i
  · subst hj
    have hl : j < ds.length := by
      have := (List.getElem?_eq_some_iff.mp e).1
      rwa [List.length_set] at this
    rw [List.getElem?_set_self hl] at e
    cases e
    have hs := h.lt hl
    cases s with
    | u => exact r.elim
    | f _ => exact r.elim
    | d x => exact ⟨v, List.getElem?_set_self hs, r⟩
    | m k => exact ⟨v, List.getElem?_set_self hs, r⟩
    | s ns => exact ⟨v, List.getElem?_set_self hs, r⟩
    | v x => exact ⟨v, List.getElem?_set_self hs, r⟩
  · rw [List.getElem?_set_ne (Ne.symm hj)] at e
    have q := h j t e
    split at q
    · show j < (σ.set i (some v)).length
      rw [List.length_set]; exact q
    · obtain ⟨w, e1, e2⟩ := q
      exact ⟨w, by rw [List.getElem?_set_ne (Ne.symm hj)]; exact e1, e2⟩
theorem Sl.forget (h : Sl K L M σ H ds) (i : Nat) (o : Option V) : Sl K L M (σ.set i o) H (ds.set i .u) := fun j t e => by
  by_cases hj : j = i
  · subst hj
    have hl : j < ds.length := by
      have := (List.getElem?_eq_some_iff.mp e).1
      rwa [List.length_set] at this
    rw [List.getElem?_set_self hl] at e
    cases e
    show j < (σ.set j o).length
    rw [List.length_set]; exact h.lt hl
  · rw [List.getElem?_set_ne (Ne.symm hj)] at e
    have q := h j t e
    split at q
    · show j < (σ.set i o).length
      rw [List.length_set]; exact q
    · obtain ⟨w, e1, e2⟩ := q
      exact ⟨w, by rw [List.getElem?_set_ne (Ne.symm hj)]; exact e1, e2⟩
end
def wipeD (ds : List SD) : List Nat → List SD
  | [] => ds
  | v :: vs => (wipeD ds vs).set v .u
theorem Sl.wipe {L M : List Addr} {σ : L2.St} {H : Hp} {ds : List SD} (h : Sl K L M σ H ds) : ∀ vs : List Nat, Sl K L M (L2.wipe σ vs) H (wipeD ds vs)
  | [] => h
  | v :: vs => (Sl.wipe h vs).forget v none
/-- what comes out of an evaluation that began at H -/
def Out (K : PySem.W.Frag) (L M : List Addr) (H H' : Hp) (ms : List MD) (v : V) : SD → Prop
  | .f es => ∃ p, v = .ref p ∧ H p = none ∧ p ∉ M ∧ At (L ++ [p]) (M ++ [p]) (ms ++ [.l es]) H' ∧ ∀ q ∈ L, q ∈ M
  | s => At L M ms H' ∧ SlOk K L M H' s v
def dd : SD → SD
  | .f es => .d (.list es)
  | s => s
section
variable {L M : List Addr} {ms : List MD} {H0 H H' : Hp} {v : V}
theorem Out.dd : ∀ {s : SD}, Out K L M H H' ms v s → Out K L M H H' ms v (dd s)
  | .f es, ⟨p, e, _, n, a, sb⟩ => by
    obtain ⟨xs, e1, r⟩ := a.last
    refine ⟨a.drop sb, ?_⟩
    subst e
    exact .lst n e1 (RpA.to to_less _ _ r)
  | .d x, h => h
  | .m k, h => h
  | .s ns, h => h
  | .v x, h => h
  | .u, h => h
theorem none_back (a : At L M ms H) {p : Addr} (w : Wk L H0 H) (n : p ∉ M) (h : H p = none) : H0 p = none := by
  cases q : H0 p with
  | none => rfl
  | some o =>
    rw [w p o (fun z => n (a.sub p z)) q] at h
    cases h
theorem Out.back (a : At L M ms0 H) (w : Wk L H0 H) : ∀ {s : SD}, Out K L M H H' ms v s → Out K L M H0 H' ms v s
  | .f es, ⟨p, e, h, n, b, sb⟩ => ⟨p, e, none_back a w n h, n, b, sb⟩
  | .d x, h => h
  | .m k, h => h
  | .s ns, h => h
  | .v x, h => h
  | .u, h => h
theorem Out.at : ∀ {s : SD}, Out K L M H H' ms v s → At L M ms H'
  | .f es, ⟨p, _, _, _, a, sb⟩ => a.drop sb
  | .d _, h => h.1
  | .m _, h => h.1
  | .s _, h => h.1
  | .v _, h => h.1
  | .u, h => h.1
theorem Out.of (a : At L M ms H') : ∀ {s : SD}, SlOk K L M H' s v → Out K L M H H' ms v s
  | .d x, h => ⟨a, h⟩
  | .m k, h => ⟨a, h⟩
  | .s ns, h => ⟨a, h⟩
  | .v x, h => ⟨a, h⟩
  | .u, h => h.elim
  | .f _, h => h.elim
theorem Out.sl : ∀ {s : SD}, Out K L M H H' ms v s → SlOk K L M H' (Hc.dd s) v
  | .f es, h => (Out.dd h).2
  | .d _, h => h.2
  | .m _, h => h.2
  | .s _, h => h.2
  | .v _, h => h.2
  | .u, h => h.2
end

/-! ### evaluations, at the level of data -/
abbrev RS := SD → List MD → Prop
def E (K : PySem.W.Frag) (te : TE) (ds : List SD) (ms : List MD) (R : RS) : Prop :=
  ∀ (L M : List Addr) (σ : L2.St) (H : Hp), Sl K L M σ H ds → At L M ms H → ∀ Q : VK, (∀ s v H' ms', Wk L H H' → Out K L M H H' ms' v s → R s ms' → Q v H') → te σ H Q
def ET (K : PySem.W.Frag) (tt : TT) (ds : List SD) (ms : List MD) (R : Bool → List MD → Prop) : Prop :=
  ∀ (L M : List Addr) (σ : L2.St) (H : Hp), Sl K L M σ H ds → At L M ms H → ∀ Q : Bool → Hp → Prop, (∀ b H' ms', Wk L H H' → At L M ms' H' → R b ms' → Q b H') → tt σ H Q
def SlsOk (K : PySem.W.Frag) (L M : List Addr) (H : Hp) : List SD → List V → Prop
  | [], vs => vs = []
  | s :: r, vs => ∃ v t, vs = v :: t ∧ SlOk K L M H s v ∧ SlsOk K L M H r t
theorem SlsOk.mono {L M : List Addr} {ms : List MD} {H H' : Hp} (h : At L M ms H) (w : Wk L H H') : ∀ {as : List SD} {vs : List V}, SlsOk K L M H as vs → SlsOk K L M H' as vs
  | [], _, r => r
  | s :: r, _, ⟨v, t, e, a, b⟩ => ⟨v, t, e, a.mono h w, SlsOk.mono h w b⟩
def EA (K : PySem.W.Frag) (ta : TA) (ds : List SD) (ms : List MD) (R : List SD → List MD → Prop) : Prop :=
  ∀ (L M : List Addr) (σ : L2.St) (H : Hp), Sl K L M σ H ds → At L M ms H → ∀ Q : List V → Hp → Prop, (∀ as vs H' ms', Wk L H H' → At L M ms' H' → SlsOk K L M H' as vs → R as ms' → Q vs H') → ta σ H Q
/-- operations on values -/
def RR (K : PySem.W.Frag) (r : R2) (a b : SD) (ms : List MD) (R : RS) : Prop :=
  ∀ (L M : List Addr) (H : Hp) (x y : V), At L M ms H → SlOk K L M H a x → SlOk K L M H b y → ∀ Q : VK, (∀ s v H' ms', Wk L H H' → Out K L M H H' ms' v s → R s ms' → Q v H') → r x y H Q
def RU (K : PySem.W.Frag) (r : V → Hp → VK → Prop) (a : SD) (ms : List MD) (R : RS) : Prop :=
  ∀ (L M : List Addr) (H : Hp) (x : V), At L M ms H → SlOk K L M H a x → ∀ Q : VK, (∀ s v H' ms', Wk L H H' → Out K L M H H' ms' v s → R s ms' → Q v H') → r x H Q
def RC (K : PySem.W.Frag) (r : List V → Hp → VK → Prop) (as : List SD) (ms : List MD) (R : RS) : Prop :=
  ∀ (L M : List Addr) (H : Hp) (vs : List V), At L M ms H → SlsOk K L M H as vs → ∀ Q : VK, (∀ s v H' ms', Wk L H H' → Out K L M H H' ms' v s → R s ms' → Q v H') → r vs H Q

variable {te ta tb tc : TE} {tt tu : TT} {tA tB : TA} {ds : List SD} {ms : List MD} {R : RS}
theorem e_var {i : Nat} {x : PyData} (h : ds[i]? = some (.d x)) (r : R (.d x) ms) : E K (tVar i) ds ms R := fun L M σ H hS hA Q q => by
  obtain ⟨v, e, o⟩ := hS.get h (fun z => nomatch z)
  exact ⟨v, e, q _ v H ms (Wk.refl L H) (.of hA o) r⟩
theorem e_varm {i k : Nat} (h : ds[i]? = some (.m k)) (r : R (.m k) ms) : E K (tVar i) ds ms R := fun L M σ H hS hA Q q => by
  obtain ⟨v, e, o⟩ := hS.get h (fun z => nomatch z)
  exact ⟨v, e, q _ v H ms (Wk.refl L H) (.of hA o) r⟩
theorem e_vars {i : Nat} {ns : List Int} (h : ds[i]? = some (.s ns)) (r : R (.s ns) ms) : E K (tVar i) ds ms R := fun L M σ H hS hA Q q => by
  obtain ⟨v, e, o⟩ := hS.get h (fun z => nomatch z)
  exact ⟨v, e, q _ v H ms (Wk.refl L H) (.of hA o) r⟩
theorem e_varv {i : Nat} {x : V} (h : ds[i]? = some (.v x)) (r : R (.v x) ms) : E K (tVar i) ds ms R := fun L M σ H hS hA Q q => by
  obtain ⟨v, e, o⟩ := hS.get h (fun z => nomatch z)
  exact ⟨v, e, q _ v H ms (Wk.refl L H) (.of hA o) r⟩
theorem e_cv {x : V} (r : R (.v x) ms) : E K (tC x) ds ms R := fun L M σ H hS hA Q q => q (.v x) x H ms (Wk.refl L H) ⟨hA, rfl⟩ r
theorem e_int {i : Int} (r : R (.d (.int i)) ms) : E K (tC (.int i)) ds ms R := fun L M σ H hS hA Q q => q (.d (.int i)) _ H ms (Wk.refl L H) ⟨hA, .int i⟩ r
theorem e_bl {i : Bool} (r : R (.d (.bool i)) ms) : E K (tC (.bl i)) ds ms R := fun L M σ H hS hA Q q => q (.d (.bool i)) _ H ms (Wk.refl L H) ⟨hA, .bl i⟩ r
theorem e_non (r : R (.d .none) ms) : E K (tC .non) ds ms R := fun L M σ H hS hA Q q => q (.d .none) _ H ms (Wk.refl L H) ⟨hA, .non⟩ r
theorem e_str {x : Str} (r : R (.d (.str x)) ms) : E K (tC (.str x)) ds ms R := fun L M σ H hS hA Q q => q (.d (.str x)) _ H ms (Wk.refl L H) ⟨hA, .str x⟩ r
/-- two operands, then the operation -/
theorem e_op {r : R2} (h : E K ta ds ms fun a ms1 => E K tb ds ms1 fun b ms2 => RR K r (dd a) (dd b) ms2 R) : E K (tOp r ta tb) ds ms R := fun L M σ H hS hA Q q =>
  h L M σ H hS hA _ fun a x H1 ms1 w1 o1 h1 => h1 L M σ H1 (hS.mono hA w1) o1.at _ fun b y H2 ms2 w2 o2 h2 =>
    h2 L M H2 x y o2.at (o1.sl.mono o1.at w2) o2.sl Q fun s v H3 ms3 w3 o3 r3 => q s v H3 ms3 ((w1.trans w2).trans w3) (o3.back o2.at (w1.trans w2)) r3
theorem e_un {r : V → Hp → VK → Prop} (h : E K ta ds ms fun a ms1 => RU K r (dd a) ms1 R) : E K (tUn r ta) ds ms R := fun L M σ H hS hA Q q =>
  h L M σ H hS hA _ fun a x H1 ms1 w1 o1 h1 => h1 L M H1 x o1.at o1.sl Q fun s v H3 ms3 w3 o3 r3 => q s v H3 ms3 (w1.trans w3) (o3.back o1.at w1) r3
theorem ea_nil {R : List SD → List MD → Prop} (r : R [] ms) : EA K tNil ds ms R := fun L M σ H hS hA Q q => q [] [] H ms (Wk.refl L H) hA rfl r
theorem ea_cons {R : List SD → List MD → Prop} (h : E K ta ds ms fun a ms1 => EA K tA ds ms1 fun as ms2 => R (dd a :: as) ms2) : EA K (tCons ta tA) ds ms R := fun L M σ H hS hA Q q =>
  h L M σ H hS hA _ fun a x H1 ms1 w1 o1 h1 => h1 L M σ H1 (hS.mono hA w1) o1.at _ fun as vs H2 ms2 w2 a2 o2 r2 => q (dd a :: as) (x :: vs) H2 ms2 (w1.trans w2) a2 ⟨x, vs, rfl, o1.sl.mono o1.at w2, o2⟩ r2
theorem e_cb {r : List V → Hp → VK → Prop} (h : EA K tA ds ms fun as ms1 => RC K r as ms1 R) : E K (tCB r tA) ds ms R := fun L M σ H hS hA Q q =>
  h L M σ H hS hA _ fun as vs H1 ms1 w1 a1 o1 h1 => h1 L M H1 vs a1 o1 Q fun s v H3 ms3 w3 o3 r3 => q s v H3 ms3 (w1.trans w3) (o3.back a1 w1) r3
theorem SlsOk.data {L M : List Addr} {H : Hp} : ∀ {as : List PyData} {vs : List V}, SlsOk K L M H (as.map .d) vs → RpA M H vs as
  | [], _, h => by cases h; exact .nil
  | a :: r, _, ⟨v, t, e, x, y⟩ => by subst e; exact .cons x (SlsOk.data y)
/-- new tuples and lists -/
theorem e_tup (h : EA K tA ds ms fun as ms1 => ∃ xs, as = xs.map SD.d ∧ xs.length ≤ 10000 ∧ R (.d (.tuple xs)) ms1) : E K (tTup tA) ds ms R := fun L M σ H hS hA Q q =>
  h L M σ H hS hA _ fun as vs H1 ms1 w1 a1 o1 ⟨xs, e, hz, r⟩ => by
    subst e
    have hr := o1.data
    refine ⟨by rw [hr.length]; exact Nat.le_trans hz (by decide), fun p hp => ?_⟩
    refine q (.d (.tuple xs)) _ _ ms1 (w1.trans (Wk.new hp)) ⟨a1.new hp, ?_⟩ r
    exact .tup (a1.fresh hp) upd_same (RpA.to (a1.wk (Wk.new hp)) _ _ hr)
theorem out_new {L M : List Addr} {H H1 : Hp} {ms1 : List MD} {p : Addr} {xs : List V} {es : List PyData} (a1 : At L M ms1 H1) (w1 : Wk L H H1) (hp : H1 p = none) (hr : RpA M H1 xs es) : Out K L M H (upd H1 p (.lst xs)) ms1 (.ref p) (.f es) :=
  ⟨p, rfl, none_back a1 w1 (a1.fresh hp) hp, a1.fresh hp, a1.grow hp hr, a1.sub⟩
theorem e_lst (h : EA K tA ds ms fun as ms1 => ∃ xs, as = xs.map SD.d ∧ xs.length ≤ 10000 ∧ R (.f xs) ms1) : E K (tLst tA) ds ms R := fun L M σ H hS hA Q q =>
  h L M σ H hS hA _ fun as vs H1 ms1 w1 a1 o1 ⟨xs, e, hz, r⟩ => by
    subst e
    have hr := o1.data
    refine ⟨by rw [hr.length]; exact Nat.le_trans hz (by decide), fun p hp => ?_⟩
    exact q (.f xs) _ _ ms1 (w1.trans (Wk.new hp)) (out_new a1 w1 hp hr) r
/-! operations -/
theorem rr_I0 {g : Int → Int → Int} {a b : SD} (h : ∃ i j, a = .d (.int i) ∧ b = .d (.int j) ∧ R (.d (.int (g i j))) ms) : RR K (rI0 fun i j => .int (g i j)) a b ms R := fun L M H x y hA ha hb Q q => by
  obtain ⟨i, j, rfl, rfl, r⟩ := h
  cases ha; cases hb
  exact ⟨i, j, rfl, rfl, q (.d _) _ H ms (Wk.refl L H) ⟨hA, .int _⟩ r⟩
theorem rr_B0 {g : Int → Int → Bool} {a b : SD} (h : ∃ i j, a = .d (.int i) ∧ b = .d (.int j) ∧ R (.d (.bool (g i j))) ms) : RR K (rI0 fun i j => .bl (g i j)) a b ms R := fun L M H x y hA ha hb Q q => by
  obtain ⟨i, j, rfl, rfl, r⟩ := h
  cases ha; cases hb
  exact ⟨i, j, rfl, rfl, q (.d _) _ H ms (Wk.refl L H) ⟨hA, .bl _⟩ r⟩
theorem rr_I {C : Int → Int → Prop} {g : Int → Int → Int} {a b : SD} (h : ∃ i j, a = .d (.int i) ∧ b = .d (.int j) ∧ C i j ∧ R (.d (.int (g i j))) ms) : RR K (rI C fun i j => .int (g i j)) a b ms R := fun L M H x y hA ha hb Q q => by
  obtain ⟨i, j, rfl, rfl, c, r⟩ := h
  cases ha; cases hb
  exact ⟨i, j, rfl, rfl, c, q (.d _) _ H ms (Wk.refl L H) ⟨hA, .int _⟩ r⟩
theorem ru_I {g : Int → Int} {a : SD} (h : ∃ i, a = .d (.int i) ∧ R (.d (.int (g i))) ms) : RU K (rU fun i => .int (g i)) a ms R := fun L M H x hA ha Q q => by
  obtain ⟨i, rfl, r⟩ := h
  cases ha
  exact ⟨i, rfl, q (.d _) _ H ms (Wk.refl L H) ⟨hA, .int _⟩ r⟩
/-- a slot's datum, as it may be read -/
inductive Sv (ms : List MD) : SD → PyData → Prop
  | d (x : PyData) : Sv ms (.d x) x
  | m {k : Nat} {es : List PyData} : ms[k]? = some (.l es) → Sv ms (.m k) (.list es)
  | s (ns : List Int) : Sv ms (.s ns) (.list (ns.map .int))
section
variable {L M : List Addr} {H : Hp} {s : SD} {x : PyData} {v : V}
theorem Sv.lst {es : List PyData} (h : Sv ms s (.list es)) (hA : At L M ms H) (o : SlOk K L M H s v) : ∃ a xs, v = .ref a ∧ SqL K H a xs ∧ RpA M H xs es := by
  cases h with
  | d =>
    cases o with
    | lst n e r => exact ⟨_, _, rfl, SqL.of e, r⟩
  | m e =>
    obtain ⟨p, rfl, hp⟩ := o
    obtain ⟨xs, e1, r⟩ := hA.get hp e
    exact ⟨p, xs, rfl, SqL.of e1, r⟩
  | s ns =>
    obtain ⟨a, rfl, ⟨_, q⟩ | q⟩ := o
    · exact ⟨a, _, rfl, .inl q, RpA.ints ns⟩
    · exact ⟨a, _, rfl, q H, RpA.ints ns⟩
theorem Sv.tup {es : List PyData} (h : Sv ms s (.tuple es)) (o : SlOk K L M H s v) : ∃ a xs, v = .ref a ∧ H a = some (.tup xs) ∧ RpA M H xs es := by
  cases h with
  | d =>
    cases o with
    | tup n e r => exact ⟨_, _, rfl, e, r⟩
theorem Sv.dp (h : Sv ms s x) (hA : At L M ms H) (o : SlOk K L M H s v) (c : x.canLay0 = true) : Dp K H v x := by
  cases h with
  | d => exact Rp.dp _ _ c o
  | m e =>
    obtain ⟨a, xs, rfl, q, r⟩ := Sv.lst (.m e) hA o
    exact .lst q (RpA.dp _ _ (by simpa [PyData.canLay0] using c) r)
  | s ns =>
    obtain ⟨a, xs, rfl, q, r⟩ := Sv.lst (.s ns) hA o
    exact .lst q (RpA.dp _ _ (by simpa [PyData.canLay0] using c) r)
theorem Sv.ty (h : Sv ms s x) (hA : At L M ms H) (o : SlOk K L M H s v) (hs : ∀ ns, s ≠ .s ns) : TyX K H v (.type (tyN x)) := by
  cases h with
  | d => exact Rp.ty o
  | m e =>
    obtain ⟨p, rfl, hp⟩ := o
    obtain ⟨xs, e1, r⟩ := hA.get hp e
    exact .base (.lst e1)
  | s ns => exact absurd rfl (hs ns)
end
theorem rr_eq {a b : SD} (h : ∃ x y, Sv ms a x ∧ Sv ms b y ∧ SeqAt.shaped x = true ∧ SeqAt.shaped y = true ∧ R (.d (.bool (PyData.eqv x y))) ms) : RR K (rEqD K) a b ms R := fun L M H u v hA ha hb Q q => by
  obtain ⟨x, y, ea, eb, s1, s2, r⟩ := h
  exact ⟨x, y, ea.dp hA ha (SeqAt.canLay_of_shaped s1), eb.dp hA hb (SeqAt.canLay_of_shaped s2), s1, s2, q (.d _) _ H ms (Wk.refl L H) ⟨hA, .bl _⟩ r⟩
theorem rr_ne {a b : SD} (h : ∃ x y, Sv ms a x ∧ Sv ms b y ∧ SeqAt.shaped x = true ∧ SeqAt.shaped y = true ∧ R (.d (.bool (!PyData.eqv x y))) ms) : RR K (rNeD K) a b ms R := fun L M H u v hA ha hb Q q => by
  obtain ⟨x, y, ea, eb, s1, s2, r⟩ := h
  exact ⟨x, y, ea.dp hA ha (SeqAt.canLay_of_shaped s1), eb.dp hA hb (SeqAt.canLay_of_shaped s2), s1, s2, q (.d _) _ H ms (Wk.refl L H) ⟨hA, .bl _⟩ r⟩
end
end Hc

namespace Hc
open PySem PySem.Spec PyProof.Rows L2
section
variable {K : PySem.W.Frag} {te ta tb tc tl : TE} {tt tu : TT} {tA tB : TA} {ds : List SD} {ms : List MD} {R : RS}
/-! ### tests -/
theorem et_test {RB : Bool → List MD → Prop} (h : E K te ds ms fun s ms1 => ∃ b, s = .d (.bool b) ∧ RB b ms1) : ET K (tTest te) ds ms RB := fun L M σ H hS hA Q q =>
  h L M σ H hS hA _ fun s v H1 ms1 w o ⟨b, e, r⟩ => by
    subst e
    obtain ⟨a, z⟩ := o
    cases z
    exact ⟨b, rfl, q b H1 ms1 w a r⟩
theorem et_B {RB : Bool → List MD → Prop} (h : E K te ds ms fun s ms1 => ∃ b, s = .d (.bool b) ∧ RB b ms1) : ET K (L2.tB te) ds ms RB := fun L M σ H hS hA Q q =>
  h L M σ H hS hA _ fun s v H1 ms1 w o ⟨b, e, r⟩ => by
    subst e
    obtain ⟨a, z⟩ := o
    cases z
    exact ⟨b, rfl, q b H1 ms1 w a r⟩
theorem et_and {RB : Bool → List MD → Prop} (h : ET K tt ds ms fun b ms1 => (b = true → ET K tu ds ms1 RB) ∧ (b = false → RB false ms1)) : ET K (tAnd tt tu) ds ms RB := fun L M σ H hS hA Q q =>
  h L M σ H hS hA _ fun b H1 ms1 w a ⟨r1, r2⟩ => by
    cases b with
    | true =>
      show tu σ H1 Q
      exact r1 rfl L M σ H1 (hS.mono hA w) a Q fun c H2 ms2 w2 a2 r => q c H2 ms2 (w.trans w2) a2 r
    | false => exact q false H1 ms1 w a (r2 rfl)
theorem et_or {RB : Bool → List MD → Prop} (h : ET K tt ds ms fun b ms1 => (b = true → RB true ms1) ∧ (b = false → ET K tu ds ms1 RB)) : ET K (tOr tt tu) ds ms RB := fun L M σ H hS hA Q q =>
  h L M σ H hS hA _ fun b H1 ms1 w a ⟨r1, r2⟩ => by
    cases b with
    | false =>
      show tu σ H1 Q
      exact r2 rfl L M σ H1 (hS.mono hA w) a Q fun c H2 ms2 w2 a2 r => q c H2 ms2 (w.trans w2) a2 r
    | true => exact q true H1 ms1 w a (r1 rfl)
theorem et_not {RB : Bool → List MD → Prop} (h : ET K tt ds ms fun b ms1 => RB (!b) ms1) : ET K (tNot tt) ds ms RB := fun L M σ H hS hA Q q =>
  h L M σ H hS hA _ fun b H1 ms1 w a r => q (!b) H1 ms1 w a r
theorem et_yes {RB : Bool → List MD → Prop} (h : RB true ms) : ET K tYes ds ms RB := fun L M σ H hS hA Q q => q true H ms (Wk.refl L H) hA h
theorem e_and (h : E K ta ds ms fun s ms1 => ∃ b, s = .d (.bool b) ∧ (b = true → E K tb ds ms1 R) ∧ (b = false → R (.d (.bool false)) ms1)) : E K (tAndV ta tb) ds ms R := fun L M σ H hS hA Q q =>
  h L M σ H hS hA _ fun s v H1 ms1 w o ⟨b, e, r1, r2⟩ => by
    subst e
    obtain ⟨a, z⟩ := o
    cases z
    refine ⟨b, rfl, ?_⟩
    cases b with
    | true =>
      show tb σ H1 Q
      exact r1 rfl L M σ H1 (hS.mono hA w) a Q fun s v H2 ms2 w2 o2 r => q s v H2 ms2 (w.trans w2) (o2.back a w) r
    | false => exact q (.d (.bool false)) _ H1 ms1 w ⟨a, .bl false⟩ (r2 rfl)
theorem e_or (h : E K ta ds ms fun s ms1 => ∃ b, s = .d (.bool b) ∧ (b = true → R (.d (.bool true)) ms1) ∧ (b = false → E K tb ds ms1 R)) : E K (tOrV ta tb) ds ms R := fun L M σ H hS hA Q q =>
  h L M σ H hS hA _ fun s v H1 ms1 w o ⟨b, e, r1, r2⟩ => by
    subst e
    obtain ⟨a, z⟩ := o
    cases z
    refine ⟨b, rfl, ?_⟩
    cases b with
    | false =>
      show tb σ H1 Q
      exact r2 rfl L M σ H1 (hS.mono hA w) a Q fun s v H2 ms2 w2 o2 r => q s v H2 ms2 (w.trans w2) (o2.back a w) r
    | true => exact q (.d (.bool true)) _ H1 ms1 w ⟨a, .bl true⟩ (r1 rfl)
theorem e_not (h : E K ta ds ms fun s ms1 => ∃ b, s = .d (.bool b) ∧ R (.d (.bool (!b))) ms1) : E K (tNotV ta) ds ms R := fun L M σ H hS hA Q q =>
  h L M σ H hS hA _ fun s v H1 ms1 w o ⟨b, e, r⟩ => by
    subst e
    obtain ⟨a, z⟩ := o
    cases z
    exact ⟨b, rfl, q (.d (.bool (!b))) _ H1 ms1 w ⟨a, .bl (!b)⟩ r⟩
theorem e_if (h : ET K tt ds ms fun b ms1 => (b = true → E K ta ds ms1 R) ∧ (b = false → E K tb ds ms1 R)) : E K (tIf tt ta tb) ds ms R := fun L M σ H hS hA Q q =>
  h L M σ H hS hA _ fun b H1 ms1 w a ⟨r1, r2⟩ => by
    cases b with
    | true =>
      show ta σ H1 Q
      exact r1 rfl L M σ H1 (hS.mono hA w) a Q fun s v H2 ms2 w2 o2 r => q s v H2 ms2 (w.trans w2) (o2.back a w) r
    | false =>
      show tb σ H1 Q
      exact r2 rfl L M σ H1 (hS.mono hA w) a Q fun s v H2 ms2 w2 o2 r => q s v H2 ms2 (w.trans w2) (o2.back a w) r
theorem e_chain {r r' : R2} (h : E K ta ds ms fun a ms1 => E K tb ds ms1 fun b ms2 => RR K r (dd a) (dd b) ms2 fun s ms3 => ∃ k, s = .d (.bool k) ∧ (k = true → E K tc ds ms3 fun c ms4 => ∀ b', b' = dd b → RR K r' b' (dd c) ms4 R) ∧ (k = false → R (.d (.bool false)) ms3)) :
    E K (tChain r r' ta tb tc) ds ms R := fun L M σ H hS hA Q q =>
  h L M σ H hS hA _ fun a x H1 ms1 w1 o1 h1 => h1 L M σ H1 (hS.mono hA w1) o1.at _ fun b y H2 ms2 w2 o2 h2 =>
    h2 L M H2 x y o2.at (o1.sl.mono o1.at w2) o2.sl _ fun s z H3 ms3 w3 o3 ⟨k, e, k1, k2⟩ => by
      subst e
      obtain ⟨a3, zz⟩ := o3
      cases zz
      refine ⟨k, rfl, ?_⟩
      have w13 := (w1.trans w2).trans w3
      cases k with
      | true =>
        show tc σ H3 _
        exact k1 rfl L M σ H3 (hS.mono hA w13) a3 _ fun c u H4 ms4 w4 o4 h4 => h4 _ rfl L M H4 y u o4.at ((o2.sl.mono o2.at w3).mono a3 w4) o4.sl Q fun s v H5 ms5 w5 o5 r5 => q s v H5 ms5 ((w13.trans w4).trans w5) (o5.back o4.at (w13.trans w4)) r5
      | false => exact q (.d (.bool false)) _ H3 ms3 w13 ⟨a3, .bl false⟩ (k2 rfl)
/-! ### more operations -/
theorem atI_of {M : List Addr} {H : Hp} {xs : List V} {es : List PyData} {i : Int} {d : PyData} (r : RpA M H xs es) (h : atI es i = some d) : ∃ v, atI xs i = some v ∧ Rp M H v d := by
  unfold atI at h ⊢
  rw [r.length]
  cases e : ixN es.length i with
  | none => rw [e] at h; cases h
  | some j =>
    rw [e] at h
    obtain ⟨v, e1, e2⟩ := r.get (show es[j]? = some d from h)
    exact ⟨v, e1, e2⟩
theorem rr_ixL {a b : SD} (h : ∃ es i d, Sv ms a (.list es) ∧ b = .d (.int i) ∧ atI es i = some d ∧ R (.d d) ms) : RR K (rIxL K) a b ms R := fun L M H x y hA ha hb Q q => by
  obtain ⟨es, i, d, sa, rfl, e, r⟩ := h
  cases hb
  obtain ⟨p, xs, rfl, hq, hr⟩ := sa.lst hA ha
  obtain ⟨v, e1, e2⟩ := atI_of hr e
  exact ⟨p, xs, i, v, rfl, rfl, hq, e1, q (.d d) v H ms (Wk.refl L H) ⟨hA, e2⟩ r⟩
theorem rr_ixT {a b : SD} (h : ∃ es i d, Sv ms a (.tuple es) ∧ b = .d (.int i) ∧ atI es i = some d ∧ R (.d d) ms) : RR K (rIxT K) a b ms R := fun L M H x y hA ha hb Q q => by
  obtain ⟨es, i, d, sa, rfl, e, r⟩ := h
  cases hb
  obtain ⟨p, xs, rfl, hq, hr⟩ := sa.tup ha
  obtain ⟨v, e1, e2⟩ := atI_of hr e
  exact ⟨p, xs, i, v, rfl, rfl, SqT.of hq, e1, q (.d d) v H ms (Wk.refl L H) ⟨hA, e2⟩ r⟩
theorem rr_isB {a b : SD} (h : ∃ i j, a = .d (.bool i) ∧ b = .d (.bool j) ∧ R (.d (.bool (decide (i = j)))) ms) : RR K rIsB a b ms R := fun L M H x y hA ha hb Q q => by
  obtain ⟨i, j, rfl, rfl, r⟩ := h
  cases ha; cases hb
  exact ⟨i, j, rfl, rfl, q (.d _) _ H ms (Wk.refl L H) ⟨hA, .bl _⟩ r⟩
theorem rr_notB {a b : SD} (h : ∃ i j, a = .d (.bool i) ∧ b = .d (.bool j) ∧ R (.d (.bool (!decide (i = j)))) ms) : RR K rNotB a b ms R := fun L M H x y hA ha hb Q q => by
  obtain ⟨i, j, rfl, rfl, r⟩ := h
  cases ha; cases hb
  exact ⟨i, j, rfl, rfl, q (.d _) _ H ms (Wk.refl L H) ⟨hA, .bl _⟩ r⟩
theorem cat_lst {M : List Addr} {H : Hp} {x : V} {es : List PyData} (h : Rp M H x (.list es)) : ∃ p xs, x = .ref p ∧ H p = some (.lst xs) ∧ RpA M H xs es := by
  cases h with
  | lst n e r => exact ⟨_, _, rfl, e, r⟩
theorem rr_cat {a b : SD} (h : ∃ es fs, a = .d (.list es) ∧ b = .d (.list fs) ∧ es.length + fs.length ≤ 10000 ∧ R (.f (es ++ fs)) ms) : RR K rCat a b ms R := fun L M H x y hA ha hb Q q => by
  obtain ⟨es, fs, rfl, rfl, hz, r⟩ := h
  obtain ⟨p, xs, rfl, e1, r1⟩ := cat_lst ha
  obtain ⟨p2, ys, rfl, e2, r2⟩ := cat_lst hb
  refine ⟨p, p2, xs, ys, rfl, rfl, e1, e2, by rw [r1.length, r2.length]; exact Nat.le_trans hz (by decide), fun l hl => ?_⟩
  exact q (.f (es ++ fs)) _ _ ms (Wk.new hl) (out_new hA (Wk.refl L H) hl (r1.append r2)) r
/-! ### built-ins -/
theorem rc_abs {as : List SD} (h : ∃ i, as = [.d (.int i)] ∧ R (.d (.int (if i < 0 then -i else i))) ms) : RC K (fun xs H Q => ∃ i, xs = [.int i] ∧ Q (.int (if i < 0 then -i else i)) H) as ms R := fun L M H vs hA ha Q q => by
  obtain ⟨i, rfl, r⟩ := h
  obtain ⟨v, t, rfl, hv, rfl⟩ := ha
  cases hv
  exact ⟨i, rfl, q (.d _) _ H ms (Wk.refl L H) ⟨hA, .int _⟩ r⟩
theorem rc_max {as : List SD} (h : ∃ i j, as = [.d (.int i), .d (.int j)] ∧ R (.d (.int (if j > i then j else i))) ms) : RC K (fun xs H Q => ∃ i j, xs = [.int i, .int j] ∧ Q (.int (if j > i then j else i)) H) as ms R := fun L M H vs hA ha Q q => by
  obtain ⟨i, j, rfl, r⟩ := h
  obtain ⟨v, t, rfl, hv, v2, t2, rfl, hv2, rfl⟩ := ha
  cases hv; cases hv2
  exact ⟨i, j, rfl, q (.d _) _ H ms (Wk.refl L H) ⟨hA, .int _⟩ r⟩
theorem rc_min {as : List SD} (h : ∃ i j, as = [.d (.int i), .d (.int j)] ∧ R (.d (.int (if j < i then j else i))) ms) : RC K (fun xs H Q => ∃ i j, xs = [.int i, .int j] ∧ Q (.int (if j < i then j else i)) H) as ms R := fun L M H vs hA ha Q q => by
  obtain ⟨i, j, rfl, r⟩ := h
  obtain ⟨v, t, rfl, hv, v2, t2, rfl, hv2, rfl⟩ := ha
  cases hv; cases hv2
  exact ⟨i, j, rfl, q (.d _) _ H ms (Wk.refl L H) ⟨hA, .int _⟩ r⟩
theorem rc_len {as : List SD} (h : ∃ s es, as = [s] ∧ (Sv ms s (.list es) ∨ Sv ms s (.tuple es)) ∧ R (.d (.int es.length)) ms) : RC K (fun xs H Q => ∃ p ys, xs = [.ref p] ∧ (SqL K H p ys ∨ SqT K H p ys) ∧ Q (.int ys.length) H) as ms R := fun L M H vs hA ha Q q => by
  obtain ⟨s, es, rfl, sv, r⟩ := h
  obtain ⟨v, t, rfl, hv, rfl⟩ := ha
  rcases sv with sv | sv
  · obtain ⟨p, xs, rfl, hq, hr⟩ := sv.lst hA hv
    rw [← hr.length] at r
    exact ⟨p, xs, rfl, .inl hq, q (.d _) _ H ms (Wk.refl L H) ⟨hA, .int _⟩ r⟩
  · obtain ⟨p, xs, rfl, hq, hr⟩ := sv.tup hv
    rw [← hr.length] at r
    exact ⟨p, xs, rfl, .inr (SqT.of hq), q (.d _) _ H ms (Wk.refl L H) ⟨hA, .int _⟩ r⟩
theorem rc_str {as : List SD} (h : ∃ i, as = [.d (.int i)] ∧ i.natAbs.log2 < 1920 ∧ R (.d (.str (toString i))) ms) : RC K (fun xs H Q => ∃ i : Int, xs = [.int i] ∧ i.natAbs.log2 < 1920 ∧ Q (.str (toString i)) H) as ms R := fun L M H vs hA ha Q q => by
  obtain ⟨i, rfl, hi, r⟩ := h
  obtain ⟨v, t, rfl, hv, rfl⟩ := ha
  cases hv
  exact ⟨i, rfl, hi, q (.d _) _ H ms (Wk.refl L H) ⟨hA, .str _⟩ r⟩
theorem rc_tuple {as : List SD} (h : ∃ s es, as = [s] ∧ (Sv ms s (.list es) ∨ Sv ms s (.tuple es)) ∧ R (.d (.tuple es)) ms) :
    RC K (fun xs H Q => ∃ p ys, xs = [.ref p] ∧ ((SqL K H p ys ∧ ∀ l, H l = none → Q (.ref l) (upd H l (.tup ys))) ∨ (SqT K H p ys ∧ Q (.ref p) H))) as ms R := fun L M H vs hA ha Q q => by
  obtain ⟨s, es, rfl, sv, r⟩ := h
  obtain ⟨v, t, rfl, hv, rfl⟩ := ha
  rcases sv with sv | sv
  · obtain ⟨p, xs, rfl, hq, hr⟩ := sv.lst hA hv
    refine ⟨p, xs, rfl, .inl ⟨hq, fun l hl => ?_⟩⟩
    exact q (.d (.tuple es)) _ _ ms (Wk.new hl) ⟨hA.new hl, .tup (hA.fresh hl) upd_same (RpA.to (hA.wk (Wk.new hl)) _ _ hr)⟩ r
  · have hv2 : Rp M H v (.tuple es) := by cases sv; exact hv
    obtain ⟨p, xs, rfl, hq, hr⟩ := sv.tup hv
    exact ⟨p, xs, rfl, .inr ⟨SqT.of hq, q (.d (.tuple es)) _ H ms (Wk.refl L H) ⟨hA, hv2⟩ r⟩⟩
theorem rc_list {as : List SD} (h : ∃ s es, as = [s] ∧ (Sv ms s (.list es) ∨ Sv ms s (.tuple es)) ∧ R (.f es) ms) :
    RC K (fun xs H Q => ∃ p ys, xs = [.ref p] ∧ (SqL K H p ys ∨ SqT K H p ys) ∧ ∀ l, H l = none → Q (.ref l) (upd H l (.lst ys))) as ms R := fun L M H vs hA ha Q q => by
  obtain ⟨s, es, rfl, sv, r⟩ := h
  obtain ⟨v, t, rfl, hv, rfl⟩ := ha
  rcases sv with sv | sv
  · obtain ⟨p, xs, rfl, hq, hr⟩ := sv.lst hA hv
    exact ⟨p, xs, rfl, .inl hq, fun l hl => q (.f es) _ _ ms (Wk.new hl) (out_new hA (Wk.refl L H) hl hr) r⟩
  · obtain ⟨p, xs, rfl, hq, hr⟩ := sv.tup hv
    exact ⟨p, xs, rfl, .inr (SqT.of hq), fun l hl => q (.f es) _ _ ms (Wk.new hl) (out_new hA (Wk.refl L H) hl hr) r⟩
theorem rc_all {as : List SD} (h : ∃ (s : SD) (bs : List Bool), as = [s] ∧ Sv ms s (.list (bs.map .bool)) ∧ R (.d (.bool (bs.all id))) ms) : RC K (rAll K) as ms R := fun L M H vs hA ha Q q => by
  obtain ⟨s, bs, rfl, sv, r⟩ := h
  obtain ⟨v, t, rfl, hv, rfl⟩ := ha
  obtain ⟨p, xs, rfl, hq, hr⟩ := sv.lst hA hv
  rw [RpA.bools_inv hr] at hq
  exact ⟨p, bs, rfl, hq, q (.d _) _ H ms (Wk.refl L H) ⟨hA, .bl _⟩ r⟩
/-- isinstance -/
def inst (d : PyData) (T : String) : Bool := (kitB (tyN d) T).getD false
theorem e_isi {T : String} (hT : ∀ d, kitB (tyN d) T = some (inst d T)) (h : E K te ds ms fun s ms1 => ∃ x, Sv ms1 (dd s) x ∧ (∀ ns, dd s ≠ .s ns) ∧ R (.d (.bool (inst x T))) ms1) : E K (tCB (rIsi K) (tCons te (tCons (tC (.ty T)) tNil))) ds ms R := fun L M σ H hS hA Q q =>
  h L M σ H hS hA _ fun s v H1 ms1 w o ⟨x, sv, hs, r⟩ => ⟨v, .ty T, .type (tyN x), .type T, inst x T, rfl, .ty T, sv.ty o.at o.sl hs, kit_ty (hT x), q (.d _) _ H1 ms1 w ⟨o.at, .bl _⟩ r⟩
theorem e_isiT {T U : String} (hT : ∀ d, kitB (tyN d) T = some (inst d T)) (hU : ∀ d, kitB (tyN d) U = some (inst d U)) (h : E K te ds ms fun s ms1 => ∃ x, Sv ms1 (dd s) x ∧ (∀ ns, dd s ≠ .s ns) ∧ R (.d (.bool (inst x T || inst x U))) ms1) :
    E K (tCB (rIsiT K) (tCons te (tCons (tTup (tCons (tC (.ty T)) (tCons (tC (.ty U)) tNil))) tNil))) ds ms R := fun L M σ H hS hA Q q =>
  h L M σ H hS hA _ fun s v H1 ms1 w o ⟨x, sv, hs, r⟩ => ⟨by show 2 ≤ sizeLine; decide, fun p hp => by
    have a1 := o.at
    have k1 : PySem.W.kitAny K (.type (tyN x)) [.type T, .type U] = some (inst x T || inst x U) := by
      refine kitAny_cons (kit_ty (hT x)) (fun hb => ?_) (fun hb => by rw [hb]; rfl)
      rw [hb, Bool.false_or]
      refine kitAny_cons (kit_ty (hU x)) (fun hb => ?_) (fun hb => hb)
      rw [hb]; rfl
    have ty : TyX K (upd H1 p (.tup [.ty T, .ty U])) v (.type (tyN x)) := sv.ty (a1.new hp) (o.sl.mono a1 (Wk.new hp)) hs
    exact ⟨v, p, [.ty T, .ty U], .type (tyN x), [.type T, .type U], inst x T || inst x U, rfl, upd_same, .cons (.ty T) (.cons (.ty U) .nil), ty, k1, q (.d _) _ _ ms1 (w.trans (Wk.new hp)) ⟨a1.new hp, .bl _⟩ r⟩⟩
/-! ### methods of lists that may change -/
theorem e_pop (h : E K ta ds ms fun s ms1 => ∃ k es d, s = .m k ∧ ms1[k]? = some (.l (es ++ [d])) ∧ R (.d d) (ms1.set k (.l es))) : E K (tBM0 K "list" rPop ta) ds ms R := fun L M σ H hS hA Q q =>
  h L M σ H hS hA _ fun s v H1 ms1 w o ⟨k, es, d, e, em, r⟩ => by
    subst e
    obtain ⟨a1, p, rfl, hp⟩ := o
    obtain ⟨xs, e1, r1⟩ := a1.get hp em
    have hpL : p ∈ L := List.mem_of_getElem? hp
    have hl : xs.length = es.length + 1 := by rw [r1.length]; simp
    obtain ⟨y, e2, r2⟩ := r1.get (i := es.length) (d := d) (by simp)
    refine ⟨.inl ⟨rfl, xs, SqL.of e1⟩, p, xs, y, rfl, rfl, e1, by rw [hl]; exact e2, ?_⟩
    have r3 : RpA M H1 xs.dropLast es := by
      have z := r1.take es.length
      rw [List.take_left] at z
      rw [List.dropLast_eq_take, hl]
      exact z
    exact q (.d d) y _ _ (w.trans (Wk.mut hpL)) ⟨a1.put hp r3, Rp.to (a1.wk (Wk.mut hpL)) _ _ r2⟩ r
theorem e_popAt0 (h : E K ta ds ms fun s ms1 => ∃ k es d, s = .m k ∧ ms1[k]? = some (.l (d :: es)) ∧ R (.d d) (ms1.set k (.l es))) : E K (tBM K "list" rPopAt ta (tCons (tC (.int 0)) tNil)) ds ms R := fun L M σ H hS hA Q q =>
  h L M σ H hS hA _ fun s v H1 ms1 w o ⟨k, es, d, e, em, r⟩ => by
    subst e
    obtain ⟨a1, p, rfl, hp⟩ := o
    obtain ⟨xs, e1, r1⟩ := a1.get hp em
    have hpL : p ∈ L := List.mem_of_getElem? hp
    cases r1 with
    | @cons y ys _ _ r2 r3 =>
      refine ⟨.inl ⟨rfl, _, SqL.of e1⟩, p, y :: ys, 0, 0, y, rfl, rfl, e1, by decide, by decide, ?_, rfl, ?_⟩
      · unfold seqIndex?
        simp
      · exact q (.d d) y _ _ (w.trans (Wk.mut hpL)) ⟨a1.put hp r3, Rp.to (a1.wk (Wk.mut hpL)) _ _ r2⟩ r
theorem e_append (h : E K ta ds ms fun s ms1 => ∃ k, s = .m k ∧ E K te ds ms1 fun x ms2 => ∃ d es, dd x = .d d ∧ ms2[k]? = some (.l es) ∧ es.length < 10000 ∧ R (.d .none) (ms2.set k (.l (es ++ [d])))) : E K (tBM K "list" rAppend ta (tCons te tNil)) ds ms R := fun L M σ H hS hA Q q =>
  h L M σ H hS hA _ fun s v H1 ms1 w o ⟨k, e, h2⟩ => by
    subst e
    obtain ⟨a1, p, rfl, hp⟩ := o
    have hpL : p ∈ L := List.mem_of_getElem? hp
    have hk : k < ms1.length := by rw [← a1.ln]; exact (List.getElem?_eq_some_iff.mp hp).1
    · obtain ⟨xs0, e0⟩ := (a1.ok k p _ hp (List.getElem?_eq_getElem hk)).lst
      refine ⟨.inl ⟨rfl, xs0, SqL.of e0⟩, ?_⟩
      refine h2 L M σ H1 (hS.mono hA w) a1 _ fun x y H2 ms2 w2 o2 ⟨d, es, ed, em, hz, r⟩ => ?_
      have a2 := o2.at
      have ry := o2.sl
      rw [ed] at ry
      obtain ⟨xs, e1, r1⟩ := a2.get hp em
      refine ⟨p, xs, y, rfl, rfl, e1, by rw [r1.length]; exact Nat.lt_trans hz (by decide), ?_⟩
      exact q (.d .none) .non _ _ ((w.trans w2).trans (Wk.mut hpL)) ⟨a2.put hp (r1.append (.cons ry .nil)), .non⟩ r
theorem e_rev (h : E K ta ds ms fun s ms1 => ∃ es, Sv ms1 (dd s) (.list es) ∧ R (.f es.reverse) ms1) : E K (tRevL K ta) ds ms R := fun L M σ H hS hA Q q =>
  h L M σ H hS hA _ fun s v H1 ms1 w o ⟨es, sv, r⟩ => by
    have a1 := o.at
    obtain ⟨p, xs, rfl, hq, hr⟩ := sv.lst a1 o.sl
    exact ⟨p, xs, rfl, hq, fun l hl => q (.f es.reverse) _ _ ms1 (w.trans (Wk.new hl)) (out_new a1 w hl hr.reverse) r⟩
/-! ### calls of the program's own defs -/
abbrev Ph := List SD → List MD → RS → Prop
def SpD (K : PySem.W.Frag) (Φ : Ph) : Sp := fun vs H Q _ => ∃ L M ms as R, At L M ms H ∧ SlsOk K L M H as vs ∧ Φ as ms R ∧ ∀ s v H' ms', Wk L H H' → Out K L M H H' ms' v s → R s ms' → Q v H'
theorem e_call {Φ : Ph} {E0 : XK} (h : EA K tA ds ms fun as ms1 => Φ as ms1 R) : E K (tCall (SpD K Φ) [] E0 tA) ds ms R := fun L M σ H hS hA Q q =>
  h L M σ H hS hA _ fun as vs H1 ms1 w1 a1 o1 h1 => by
    rw [List.append_nil]
    exact ⟨L, M, ms1, as, R, a1, o1, h1, fun s v H3 ms3 w3 o3 r3 => q s v H3 ms3 (w1.trans w3) (o3.back a1 w1) r3⟩
/-! ### statements -/
structure Po where
  nx : List SD → List MD → Prop
  rt : RS
  bk : List SD → List MD → Prop
  ct : List SD → List MD → Prop
def Nx (K : PySem.W.Frag) (L M : List Addr) (H : Hp) (N : List SD → List MD → Prop) (C : L2.St → Hp → Prop) : Prop := ∀ σ' H' ds' ms', Wk L H H' → Sl K L M σ' H' ds' → At L M ms' H' → N ds' ms' → C σ' H'
def Rx (K : PySem.W.Frag) (L M : List Addr) (H : Hp) (R : RS) (Q : VK) : Prop := ∀ s v H' ms', Wk L H H' → Out K L M H H' ms' v s → R s ms' → Q v H'
def S (K : PySem.W.Frag) (t : TS) (ds : List SD) (ms : List MD) (P : Po) : Prop :=
  ∀ (L M : List Addr) (σ : L2.St) (H : Hp), Sl K L M σ H ds → At L M ms H → ∀ D : Ends, Nx K L M H P.nx D.nx → Rx K L M H P.rt D.rt → Nx K L M H P.bk D.bk → Nx K L M H P.ct D.ct → t D σ H
section
variable {L M : List Addr} {H H1 : Hp} {N : List SD → List MD → Prop} {C : L2.St → Hp → Prop} {Q : VK} {ms1 : List MD}
theorem Nx.on (w : Wk L H H1) (h : Nx K L M H N C) : Nx K L M H1 N C := fun σ' H' ds' ms' w2 => h σ' H' ds' ms' (w.trans w2)
theorem Rx.on (a : At L M ms1 H1) (w : Wk L H H1) (h : Rx K L M H R Q) : Rx K L M H1 R Q := fun s v H' ms' w2 o r => h s v H' ms' (w.trans w2) (o.back a w) r
end
variable {t u : TS} {P : Po}
theorem s_next (h : P.nx ds ms) : S K tNext ds ms P := fun L M σ H hS hA D n _ _ _ => n σ H ds ms (Wk.refl L H) hS hA h
theorem s_brk (h : P.bk ds ms) : S K tBreak ds ms P := fun L M σ H hS hA D _ _ n _ => n σ H ds ms (Wk.refl L H) hS hA h
theorem s_cont (h : P.ct ds ms) : S K tCont ds ms P := fun L M σ H hS hA D _ _ _ n => n σ H ds ms (Wk.refl L H) hS hA h
theorem s_seq (h : S K t ds ms { P with nx := fun ds1 ms1 => S K u ds1 ms1 P }) : S K (tSeq t u) ds ms P := fun L M σ H hS hA D n r b c =>
  h L M σ H hS hA { D with nx := u D } (fun σ1 H1 ds1 ms1 w s1 a1 h1 => h1 L M σ1 H1 s1 a1 D (n.on w) (r.on a1 w) (b.on w) (c.on w)) r b c
theorem s_asg {i : Nat} (h : E K te ds ms fun s ms1 => P.nx (ds.set i (dd s)) ms1) : S K (tAsg te (gName i)) ds ms P := fun L M σ H hS hA D n r b c =>
  h L M σ H hS hA _ fun s v H1 ms1 w o h1 => n _ H1 _ ms1 w ((hS.mono hA w).set i o.sl) o.at h1
theorem s_ret (h : E K te ds ms P.rt) : S K (tRet te) ds ms P := fun L M σ H hS hA D n r b c => h L M σ H hS hA _ fun s v H1 ms1 w o h1 => r s v H1 ms1 w o h1
theorem s_drop (h : E K te ds ms fun _ ms1 => P.nx ds ms1) : S K (tDrop te) ds ms P := fun L M σ H hS hA D n r b c =>
  h L M σ H hS hA _ fun s v H1 ms1 w o h1 => n σ H1 ds ms1 w (hS.mono hA w) o.at h1
theorem s_if (h : ET K tt ds ms fun b ms1 => (b = true → S K t ds ms1 P) ∧ (b = false → S K u ds ms1 P)) : S K (tIfS tt t u) ds ms P := fun L M σ H hS hA D n r b c =>
  h L M σ H hS hA _ fun k H1 ms1 w a ⟨h1, h2⟩ => by
    cases k with
    | true => exact h1 rfl L M σ H1 (hS.mono hA w) a D (n.on w) (r.on a w) (b.on w) (c.on w)
    | false => exact h2 rfl L M σ H1 (hS.mono hA w) a D (n.on w) (r.on a w) (b.on w) (c.on w)
theorem s_par {i j : Nat} (h : EA K tA ds ms fun as ms1 => ∃ x y, as = [x, y] ∧ P.nx ((ds.set i x).set j y) ms1) : S K (tPar i j tA) ds ms P := fun L M σ H hS hA D n r b c =>
  h L M σ H hS hA _ fun as vs H1 ms1 w a o ⟨x, y, e, h1⟩ => by
    subst e
    obtain ⟨v1, t1, rfl, o1, v2, t2, rfl, o2, rfl⟩ := o
    exact ⟨v1, v2, rfl, n _ H1 _ ms1 w (((hS.mono hA w).set i o1).set j o2) a h1⟩
/-- targets: js the slots that are stored -/
def EG (K : PySem.W.Frag) (g : TG) (js : List Nat) (x : SD) (ds : List SD) (ms : List MD) (N : List SD → List MD → Prop) : Prop :=
  ∀ (L M : List Addr) (σ : L2.St) (H : Hp) (v : V), Sl K L M σ H ds → At L M ms H → SlOk K L M H x v → ∀ C : L2.St → Hp → Prop, (∀ σ' ds', Sl K L M σ' H ds' → (∀ vs : List Nat, (∀ j ∈ js, j ∈ vs) → L2.wipe σ' vs = L2.wipe σ vs) → N ds' ms → C σ' H) → g v σ H C
def EGs (K : PySem.W.Frag) (g : TGs) (js : List Nat) (xs : List PyData) (ds : List SD) (ms : List MD) (N : List SD → List MD → Prop) : Prop :=
  ∀ (L M : List Addr) (σ : L2.St) (H : Hp) (vs : List V), Sl K L M σ H ds → At L M ms H → RpA M H vs xs → ∀ C : L2.St → Hp → Prop, (∀ σ' ds', Sl K L M σ' H ds' → (∀ vs : List Nat, (∀ j ∈ js, j ∈ vs) → L2.wipe σ' vs = L2.wipe σ vs) → N ds' ms → C σ' H) → g vs σ H C
theorem wipe_get (σ : L2.St) (i : Nat) : ∀ vs : List Nat, (L2.wipe σ vs)[i]? = if i ∈ vs then (if i < σ.length then some none else none) else σ[i]?
  | [] => by simp [L2.wipe]
  | v :: vs => by
    unfold L2.wipe
    by_cases e : v = i
    · subst e
      rw [List.getElem?_set, if_pos rfl, if_pos List.mem_cons_self, wipe_length]
    · rw [List.getElem?_set_ne e, wipe_get σ i vs]
      by_cases h : i ∈ vs
      · rw [if_pos h, if_pos (List.mem_cons_of_mem _ h)]
      · rw [if_neg h, if_neg (fun z => (List.mem_cons.mp z).elim (fun z => e z.symm) h)]
theorem wipe_set (σ : L2.St) (j : Nat) (o : Option V) (vs : List Nat) (h : j ∈ vs) : L2.wipe (σ.set j o) vs = L2.wipe σ vs := by
  apply List.ext_getElem?
  intro i
  rw [wipe_get, wipe_get, List.length_set]
  by_cases e : i ∈ vs
  · rw [if_pos e, if_pos e]
  · rw [if_neg e, if_neg e, List.getElem?_set_ne (fun z : j = i => e (by rw [← z]; exact h))]
variable {N : List SD → List MD → Prop}
theorem eg_name {i : Nat} {x : SD} (h : N (ds.set i x) ms) : EG K (gName i) [i] x ds ms N := fun L M σ H v hS hA ho C c =>
  c _ _ (hS.set i ho) (fun vs hv => wipe_set σ i (some v) vs (hv i (by simp))) h
theorem egs_nil (h : N ds ms) : EGs K gNil [] [] ds ms N := fun L M σ H vs hS hA hr C c => by
  cases hr
  exact ⟨rfl, c σ ds hS (fun _ _ => rfl) h⟩
theorem egs_cons {g : TG} {gs : TGs} {js js' : List Nat} {x : PyData} {xs : List PyData} (h : EG K g js (.d x) ds ms fun ds1 ms1 => EGs K gs js' xs ds1 ms1 N) : EGs K (gCons g gs) (js ++ js') (x :: xs) ds ms N := fun L M σ H vs hS hA hr C c => by
  cases hr with
  | @cons v r _ _ r1 r2 =>
    refine ⟨v, r, rfl, ?_⟩
    refine h L M σ H v hS hA r1 _ fun σ1 ds1 s1 w1 h1 => ?_
    refine h1 L M σ1 H r s1 hA r2 C fun σ2 ds2 s2 w2 h2 => ?_
    exact c σ2 ds2 s2 (fun vs hv => (w2 vs fun j hj => hv j (List.mem_append_right _ hj)).trans (w1 vs fun j hj => hv j (List.mem_append_left _ hj))) h2
theorem eg_tup {gs : TGs} {js : List Nat} {n : Nat} {xs : List PyData} (hn : xs.length = n) (h : EGs K gs js xs ds ms N) : EG K (gTup K n gs) js (.d (.tuple xs)) ds ms N := fun L M σ H v hS hA ho C c => by
  obtain ⟨a, ys, rfl, e, r⟩ := Sv.tup (ms := ms) (K := K) (L := L) (.d (.tuple xs)) ho
  exact ⟨a, ys, rfl, SqT.of e, by rw [r.length]; exact hn, h L M σ H ys hS hA r C c⟩
theorem s_asgG {g : TG} {js : List Nat} (h : E K te ds ms fun s ms1 => EG K g js (dd s) ds ms1 P.nx) : S K (tAsg te g) ds ms P := fun L M σ H hS hA D n r b c =>
  h L M σ H hS hA _ fun s v H1 ms1 w o h1 => h1 L M σ H1 v (hS.mono hA w) o.at o.sl _ fun σ' ds' s' _ h2 => n σ' H1 ds' ms1 w s' o.at h2
/-- a list unpacked -/
theorem s_asgL {gs : TGs} {js : List Nat} {n : Nat} (h : E K te ds ms fun s ms1 => ∃ xs, Sv ms1 (dd s) (.list xs) ∧ xs.length = n ∧ EGs K gs js xs ds ms1 P.nx) : S K (tAsg te (gLst K n gs)) ds ms P := fun L M σ H hS hA D nn r b c =>
  h L M σ H hS hA _ fun s v H1 ms1 w o ⟨xs, sv, hn, h1⟩ => by
    have a1 := o.at
    obtain ⟨a, ys, rfl, e, r⟩ := sv.lst a1 o.sl
    exact ⟨a, ys, rfl, e, by rw [r.length]; exact hn, h1 L M σ H1 ys (hS.mono hA w) a1 r _ fun σ' ds' s' _ h2 => nn σ' H1 ds' ms1 w s' a1 h2⟩
/-- xs[i] = e, of a list that may change -/
theorem s_setL {to ti : TE} (h : E K te ds ms fun x ms1 => ∃ d, dd x = .d d ∧ E K to ds ms1 fun s ms2 => ∃ k, s = .m k ∧ E K ti ds ms2 fun y ms3 => ∃ (i : Int) (j : Nat) (es : List PyData), y = .d (.int i) ∧ ms3[k]? = some (.l es) ∧ ixN es.length i = some j ∧ P.nx ds (ms3.set k (.l (es.set j d)))) :
    S K (tAsg te (gSub to ti rSetL)) ds ms P := fun L M σ H hS hA D n r b c =>
  h L M σ H hS hA _ fun x v H1 ms1 w1 o1 ⟨d, ed, h1⟩ => h1 L M σ H1 (hS.mono hA w1) o1.at _ fun s v2 H2 ms2 w2 o2 ⟨k, ek, h2⟩ =>
    h2 L M σ H2 ((hS.mono hA w1).mono o1.at w2) o2.at _ fun y v3 H3 ms3 w3 o3 ⟨i, j, es, ey, em, hj, h3⟩ => by
      have rv := (o1.sl.mono o1.at w2).mono o2.at w3
      rw [ed] at rv
      have a3 := o3.at
      subst ey ek
      obtain ⟨_, p, rfl, hp⟩ := o2
      obtain ⟨_, z⟩ := o3
      cases z
      have hpL : p ∈ L := List.mem_of_getElem? hp
      obtain ⟨xs, e1, r1⟩ := a3.get hp em
      refine ⟨p, xs, i, j, rfl, rfl, e1, by rw [r1.length]; exact hj, ?_⟩
      have w13 := ((w1.trans w2).trans w3).trans (Wk.mut (H := H3) (o := .lst (xs.set j v)) hpL)
      exact n σ _ ds _ w13 (hS.mono hA w13) (a3.put hp (r1.set j rv)) h3
/-! ### loops -/
section
variable {L M : List Addr} {H H1 : Hp}
/-- a source that stands still -/
inductive Sw : SD → List PyData → Prop
  | d (es : List PyData) : Sw (.d (.list es)) es
  | s (ns : List Int) : Sw (.s ns) (ns.map .int)
theorem Sw.is {s : SD} {es : List PyData} {v : V} (h : Sw s es) (hA : At L M ms H) (o : SlOk K L M H s v) : ∃ a xs, v = .ref a ∧ RpA M H xs es ∧ ∀ H', Wk L H H' → SqL K H' a xs := by
  cases h with
  | d =>
    cases o with
    | @lst a xs _ n e r => exact ⟨a, xs, rfl, r, fun H' w => SqL.of (w a _ (fun z => n (hA.sub a z)) e)⟩
  | s ns =>
    obtain ⟨a, rfl, ⟨n, q⟩ | q⟩ := o
    · refine ⟨a, _, rfl, RpA.ints ns, fun H' w => ?_⟩
      have n' : a ∉ L := fun z => n (hA.sub a z)
      rcases q with q | ⟨o, q⟩
      · exact .inl (.inl (w _ _ n' q))
      · exact .inl (.inr ⟨o, w _ _ n' q⟩)
    · exact ⟨a, _, rfl, RpA.ints ns, fun H' _ => q H'⟩
end
theorem s_forL {g : TG} {js : List Nat} (h : E K tl ds ms fun s ms0 => ∃ es, Sw (dd s) es ∧ ∃ Pv : Nat → List SD → List MD → Prop, Pv 0 ds ms0 ∧
      (∀ i e ds1 ms1, es[i]? = some e → Pv i ds1 ms1 → EG K g js (.d e) ds1 ms1 fun ds2 ms2 => S K t ds2 ms2 { P with nx := Pv (i + 1), ct := Pv (i + 1), bk := P.nx }) ∧ ∀ ds1 ms1, Pv es.length ds1 ms1 → P.nx ds1 ms1) :
    S K (tFor (iList K tl) g t) ds ms P := fun L M σ H hS hA D n r b c =>
  h L M σ H hS hA _ fun s v H1 ms0 w o ⟨es, sw, Pv, h0, hs, hd⟩ => by
    have a1 := o.at
    obtain ⟨a, xs, rfl, rx, hx⟩ := sw.is a1 o.sl
    refine ⟨a, rfl, ⟨xs, hx H1 (Wk.refl L H1)⟩, for_list (xs := xs) (fun i σ' H' => ∃ ds' ms', Wk L H1 H' ∧ Sl K L M σ' H' ds' ∧ At L M ms' H' ∧ Pv i ds' ms') ⟨ds, ms0, Wk.refl L H1, hS.mono hA w, a1, h0⟩ (fun i σ' H' _ ⟨_, _, w', _⟩ => hx H' w') (fun i x σ' H' hi ⟨ds', ms', w', s', a', p'⟩ => ?_) (fun σ' H' ⟨ds', ms', w', s', a', p'⟩ => ?_)⟩
    · obtain ⟨e, e1, e2⟩ := rx.get' hi
      refine hs i e ds' ms' e1 p' L M σ' H' x s' a' (Rp.to (a1.wk w') _ _ e2) _ fun σ2 ds2 s2 _ h2 => ?_
      refine h2 L M σ2 H' s2 a' _ (fun σ3 H3 ds3 ms3 w3 s3 a3 p3 => ⟨ds3, ms3, w'.trans w3, s3, a3, p3⟩) (r.on a' (w.trans w')) (n.on (w.trans w')) (fun σ3 H3 ds3 ms3 w3 s3 a3 p3 => ⟨ds3, ms3, w'.trans w3, s3, a3, p3⟩)
    · rw [rx.length] at p'
      exact n σ' H' ds' ms' (w.trans w') s' a' (hd ds' ms' p')
theorem s_forT {g : TG} {js : List Nat} (h : E K tl ds ms fun s ms0 => ∃ es, s = .d (.tuple es) ∧ ∃ Pv : Nat → List SD → List MD → Prop, Pv 0 ds ms0 ∧
      (∀ i e ds1 ms1, es[i]? = some e → Pv i ds1 ms1 → EG K g js (.d e) ds1 ms1 fun ds2 ms2 => S K t ds2 ms2 { P with nx := Pv (i + 1), ct := Pv (i + 1), bk := P.nx }) ∧ ∀ ds1 ms1, Pv es.length ds1 ms1 → P.nx ds1 ms1) :
    S K (tFor (iTup K tl) g t) ds ms P := fun L M σ H hS hA D n r b c =>
  h L M σ H hS hA _ fun s v H1 ms0 w o ⟨es, es', Pv, h0, hs, hd⟩ => by
    subst es'
    obtain ⟨a1, z⟩ := o
    cases z with
    | @tup a xs _ na e rx =>
    have hx : ∀ H', Wk L H1 H' → SqT K H' a xs := fun H' w' => SqT.of (w' a _ (fun z => na (a1.sub a z)) e)
    refine ⟨a, rfl, ⟨xs, hx H1 (Wk.refl L H1)⟩, for_tup (xs := xs) (fun i σ' H' => ∃ ds' ms', Wk L H1 H' ∧ Sl K L M σ' H' ds' ∧ At L M ms' H' ∧ Pv i ds' ms') ⟨ds, ms0, Wk.refl L H1, hS.mono hA w, a1, h0⟩ (fun i σ' H' _ ⟨_, _, w', _⟩ => hx H' w') (fun i x σ' H' hi ⟨ds', ms', w', s', a', p'⟩ => ?_) (fun σ' H' ⟨ds', ms', w', s', a', p'⟩ => ?_)⟩
    · obtain ⟨e, e1, e2⟩ := rx.get' hi
      refine hs i e ds' ms' e1 p' L M σ' H' x s' a' (Rp.to (a1.wk w') _ _ e2) _ fun σ2 ds2 s2 _ h2 => ?_
      refine h2 L M σ2 H' s2 a' _ (fun σ3 H3 ds3 ms3 w3 s3 a3 p3 => ⟨ds3, ms3, w'.trans w3, s3, a3, p3⟩) (r.on a' (w.trans w')) (n.on (w.trans w')) (fun σ3 H3 ds3 ms3 w3 s3 a3 p3 => ⟨ds3, ms3, w'.trans w3, s3, a3, p3⟩)
    · rw [rx.length] at p'
      exact n σ' H' ds' ms' (w.trans w') s' a' (hd ds' ms' p')
theorem s_forR {g : TG} {js : List Nat} (h : EA K tA ds ms fun as ms0 => ∃ n : Int, as = [.d (.int n)] ∧ (-(2 ^ 62) ≤ n ∧ n < 2 ^ 62) ∧ ∃ Pv : Nat → List SD → List MD → Prop, Pv 0 ds ms0 ∧
      (∀ i ds1 ms1, i < n.toNat → Pv i ds1 ms1 → EG K g js (.d (.int i)) ds1 ms1 fun ds2 ms2 => S K t ds2 ms2 { P with nx := Pv (i + 1), ct := Pv (i + 1), bk := P.nx }) ∧ ∀ ds1 ms1, Pv n.toNat ds1 ms1 → P.nx ds1 ms1) :
    S K (tFor (iRng1 tA) g t) ds ms P := fun L M σ H hS hA D n r b c =>
  h L M σ H hS hA _ fun as vs H1 ms0 w a1 o ⟨m, ea, hm, Pv, h0, hs, hd⟩ => by
    subst ea
    obtain ⟨v, t1, rfl, hv, rfl⟩ := o
    cases hv
    refine ⟨m, rfl, hm.1, hm.2, for_range (fun i σ' H' => ∃ ds' ms', Wk L H1 H' ∧ Sl K L M σ' H' ds' ∧ At L M ms' H' ∧ Pv i ds' ms') ⟨ds, ms0, Wk.refl L H1, hS.mono hA w, a1, h0⟩ (fun i σ' H' hi ⟨ds', ms', w', s', a', p'⟩ => ?_) (fun σ' H' ⟨ds', ms', w', s', a', p'⟩ => ?_)⟩
    · refine hs i ds' ms' hi p' L M σ' H' _ s' a' (by show Rp M H' (.int (0 + (i : Int))) (.int i); rw [Int.zero_add]; exact .int _) _ fun σ2 ds2 s2 _ h2 => ?_
      refine h2 L M σ2 H' s2 a' _ (fun σ3 H3 ds3 ms3 w3 s3 a3 p3 => ⟨ds3, ms3, w'.trans w3, s3, a3, p3⟩) (r.on a' (w.trans w')) (n.on (w.trans w')) (fun σ3 H3 ds3 ms3 w3 s3 a3 p3 => ⟨ds3, ms3, w'.trans w3, s3, a3, p3⟩)
    · exact n σ' H' ds' ms' (w.trans w') s' a' (hd ds' ms' p')
theorem s_forR2 {g : TG} {js : List Nat} (h : EA K tA ds ms fun as ms0 => ∃ lo n : Int, as = [.d (.int lo), .d (.int n)] ∧ (-(2 ^ 62) ≤ lo ∧ lo < 2 ^ 62 ∧ -(2 ^ 62) ≤ n ∧ n < 2 ^ 62) ∧ ∃ Pv : Nat → List SD → List MD → Prop, Pv 0 ds ms0 ∧
      (∀ i ds1 ms1, i < (n - lo).toNat → Pv i ds1 ms1 → EG K g js (.d (.int (lo + i))) ds1 ms1 fun ds2 ms2 => S K t ds2 ms2 { P with nx := Pv (i + 1), ct := Pv (i + 1), bk := P.nx }) ∧ ∀ ds1 ms1, Pv (n - lo).toNat ds1 ms1 → P.nx ds1 ms1) :
    S K (tFor (iRng2 tA) g t) ds ms P := fun L M σ H hS hA D n r b c =>
  h L M σ H hS hA _ fun as vs H1 ms0 w a1 o ⟨lo, m, ea, hm, Pv, h0, hs, hd⟩ => by
    subst ea
    obtain ⟨v, t1, rfl, hv, v2, t2, rfl, hv2, rfl⟩ := o
    cases hv; cases hv2
    refine ⟨lo, m, rfl, hm, for_range (lo := lo) (fun i σ' H' => ∃ ds' ms', Wk L H1 H' ∧ Sl K L M σ' H' ds' ∧ At L M ms' H' ∧ Pv i ds' ms') ⟨ds, ms0, Wk.refl L H1, hS.mono hA w, a1, h0⟩ (fun i σ' H' hi ⟨ds', ms', w', s', a', p'⟩ => ?_) (fun σ' H' ⟨ds', ms', w', s', a', p'⟩ => ?_)⟩
    · refine hs i ds' ms' hi p' L M σ' H' _ s' a' (.int _) _ fun σ2 ds2 s2 _ h2 => ?_
      refine h2 L M σ2 H' s2 a' _ (fun σ3 H3 ds3 ms3 w3 s3 a3 p3 => ⟨ds3, ms3, w'.trans w3, s3, a3, p3⟩) (r.on a' (w.trans w')) (n.on (w.trans w')) (fun σ3 H3 ds3 ms3 w3 s3 a3 p3 => ⟨ds3, ms3, w'.trans w3, s3, a3, p3⟩)
    · exact n σ' H' ds' ms' (w.trans w') s' a' (hd ds' ms' p')
theorem s_while (W : Nat → List SD → List MD → Prop) (m0 : Nat) (h0 : W m0 ds ms) (hs : ∀ m ds1 ms1, W m ds1 ms1 → ET K tt ds1 ms1 fun b ms2 => (b = true → S K t ds1 ms2 { P with nx := fun ds3 ms3 => ∃ m', m' < m ∧ W m' ds3 ms3, ct := fun ds3 ms3 => ∃ m', m' < m ∧ W m' ds3 ms3, bk := P.nx }) ∧ (b = false → P.nx ds1 ms2)) :
    S K (tWhile tt t) ds ms P := fun L M σ H hS hA D n r b c => by
  refine ⟨fun m σ' H' => ∃ ds' ms', Wk L H H' ∧ Sl K L M σ' H' ds' ∧ At L M ms' H' ∧ W m ds' ms', ⟨m0, ds, ms, Wk.refl L H, hS, hA, h0⟩, ?_⟩
  rintro m σ' H' ⟨ds', ms', w', s', a', p'⟩
  refine hs m ds' ms' p' L M σ' H' s' a' _ fun k H2 ms2 w2 a2 ⟨k1, k2⟩ => ?_
  cases k with
  | true =>
    rw [if_pos rfl]
    refine ⟨fun σ3 H3 => ∃ m', m' < m ∧ ∃ ds3 ms3, Wk L H H3 ∧ Sl K L M σ3 H3 ds3 ∧ At L M ms3 H3 ∧ W m' ds3 ms3, fun σ3 H3 ⟨m', l, z⟩ => ⟨m', l, z⟩, ?_⟩
    refine k1 rfl L M σ' H2 (s'.mono a' w2) a2 _ (fun σ3 H3 ds3 ms3 w3 s3 a3 ⟨m', l, p3⟩ => ⟨m', l, ds3, ms3, (w'.trans w2).trans w3, s3, a3, p3⟩) (r.on a2 (w'.trans w2)) (n.on (w'.trans w2)) (fun σ3 H3 ds3 ms3 w3 s3 a3 ⟨m', l, p3⟩ => ⟨m', l, ds3, ms3, (w'.trans w2).trans w3, s3, a3, p3⟩)
  | false =>
    rw [if_neg Bool.false_ne_true]
    exact n σ' H2 ds' ms2 (w'.trans w2) (s'.mono a' w2) a2 (k2 rfl)
/-! ### comprehensions -/
def Lt (K : PySem.W.Frag) (g : TG) (js : List Nat) (tt : TT) (te : TE) (vs : List Nat) (ds : List SD) (x : SD) (ms : List MD) (acc : List PyData) (N : List PyData → List MD → Prop) : Prop :=
  EG K g js x (wipeD ds vs) ms fun ds2 ms2 => ET K tt ds2 ms2 fun b ms3 => (b = true → E K te ds2 ms3 fun s ms4 => ∃ d, dd s = .d d ∧ N (acc ++ [d]) ms4) ∧ (b = false → N acc ms3)
section
variable {L M : List Addr} {σ : L2.St} {H1 H' : Hp}
/-- how it stands within a comprehension whose list is at D -/
structure Cs (L M : List Addr) (H1 : Hp) (D : Addr) (i : Nat) (acc : List PyData) (ms : List MD) (H : Hp) : Prop where
  w : Wk L H1 H
  a : At L (M ++ [D]) ms H
  le : acc.length ≤ i
  d : ∃ xs, H D = some (.lst xs) ∧ RpA (M ++ [D]) H xs acc
theorem lock_new {D : Addr} {o : HO} (h : At L M ms H1) (hD : H1 D = none) : At L (M ++ [D]) ms (upd H1 D o) := by
  have a := h.new (o := o) hD
  have t : To M (M ++ [D]) H1 (upd H1 D o) := to_new h hD (Wk.new hD)
  refine ⟨a.nd, fun p hp => List.mem_append_left _ (h.sub p hp), fun p hp => ?_, a.ln, fun k p m e1 e2 => ?_⟩
  · rcases List.mem_append.mp hp with z | z
    · exact a.al p z
    · simp at z; subst z; rw [upd_same]; exact fun z => nomatch z
  · exact (h.ok k p m e1 e2).to t (upd_ne (fun z => h.freshL hD (z ▸ List.mem_of_getElem? e1)))
theorem Cs.start {D : Addr} (h : At L M ms H1) (hD : H1 D = none) : Cs L M H1 D 0 [] ms (upd H1 D (.lst [])) := ⟨Wk.new hD, lock_new h hD, Nat.le_refl _, [], upd_same, .nil⟩
theorem Cs.done {D : Addr} {i : Nat} {acc : List PyData} {ms1 : List MD} {H2 : Hp} (h : Cs L M H1 D i acc ms1 H2) (hs : ∀ p ∈ L, p ∈ M) (hD : D ∉ L) : At (L ++ [D]) (M ++ [D]) (ms1 ++ [.l acc]) H2 := by
  obtain ⟨w, a, _, xs, e, r⟩ := h
  refine ⟨List.nodup_append.mpr ⟨a.nd, by simp, fun x hx y hy z => hD (by simp at hy; subst hy z; exact hx)⟩, fun q hq => ?_, a.al, by simp [a.ln], fun k q m e1 e2 => ?_⟩
  · rcases List.mem_append.mp hq with z | z
    · exact a.sub q z
    · exact List.mem_append_right _ z
  · by_cases hk : k < L.length
    · rw [List.getElem?_append_left hk] at e1
      rw [List.getElem?_append_left (by rw [← a.ln]; exact hk)] at e2
      exact (a.ok k q m e1 e2).toL (fun _ _ n e => ⟨n, e⟩) (fun k' q' _ z => by rw [List.getElem?_append_left (List.getElem?_eq_some_iff.mp z).1]; exact z) rfl
    · have hk2 : k = L.length := by
        have := (List.getElem?_eq_some_iff.mp e1).1
        simp at this
        omega
      subst hk2
      simp at e1
      subst e1
      rw [a.ln] at e2
      simp at e2
      subst e2
      exact ⟨xs, e, r⟩
theorem lc_turn {g : TG} {js : List Nat} {vs : List Nat} {D : Addr} {i : Nat} {acc : List PyData} {ms0 ms1 : List MD} {H2 : Hp} {x : SD} {v : V} {Nn : Nat → List PyData → List MD → Prop} (hj : ∀ j ∈ js, j ∈ vs) (hi : i < 10000)
    (hS : Sl K L M σ H1 ds) (a0 : At L M ms0 H1) (hD : H1 D = none) (c : Cs L M H1 D i acc ms1 H2) (ho : SlOk K L M H1 x v) (h : Lt K g js tt te vs ds x ms1 acc (Nn (i + 1))) :
    g v (L2.wipe σ vs) H2 fun σ2 H3 => L2.wipe σ2 vs = L2.wipe σ vs ∧ tt σ2 H3 fun b H4 => if b = true then te σ2 H4 fun y H5 => ∃ ac, H5 D = some (.lst ac) ∧ ac.length < sizeLine ∧ (∃ acc' ms', Cs L M H1 D (i + 1) acc' ms' (upd H5 D (.lst (ac ++ [y]))) ∧ Nn (i + 1) acc' ms') else ∃ acc' ms', Cs L M H1 D (i + 1) acc' ms' H4 ∧ Nn (i + 1) acc' ms' := by
  have t : To M (M ++ [D]) H1 H2 := to_new a0 hD c.w
  have hDL : D ∉ L := a0.freshL hD
  have s2 : Sl K L (M ++ [D]) (L2.wipe σ vs) H2 (wipeD ds vs) := (hS.to t fun _ _ e => e).wipe vs
  refine h L (M ++ [D]) (L2.wipe σ vs) H2 v s2 c.a (ho.to t fun _ _ e => e) _ fun σ2 ds2 sl2 wp h2 => ?_
  have wv : L2.wipe σ2 vs = L2.wipe σ vs := by
    rw [wp vs hj]
    apply List.ext_getElem?
    intro i
    rw [wipe_get, wipe_get, wipe_length]
    by_cases e : i ∈ vs
    · rw [if_pos e, if_pos e]
    · simp only [if_neg e, wipe_get]
  refine ⟨wv, ?_⟩
  refine h2 L (M ++ [D]) σ2 H2 sl2 c.a _ fun b H4 ms4 w4 a4 ⟨k1, k2⟩ => ?_
  obtain ⟨xs, e, r⟩ := c.d
  have e4 : H4 D = some (.lst xs) := w4 D _ hDL e
  have r4 : RpA (M ++ [D]) H4 xs acc := RpA.to (c.a.wk w4) _ _ r
  cases b with
  | false =>
    rw [if_neg Bool.false_ne_true]
    exact ⟨acc, ms4, ⟨c.w.trans w4, a4, Nat.le_succ_of_le c.le, xs, e4, r4⟩, k2 rfl⟩
  | true =>
    rw [if_pos rfl]
    refine k1 rfl L (M ++ [D]) σ2 H4 (sl2.mono c.a w4) a4 _ fun s y H5 ms5 w5 o5 ⟨d, ed, hn⟩ => ?_
    have a5 := o5.at
    have ry := o5.sl
    rw [ed] at ry
    have e5 : H5 D = some (.lst xs) := w5 D _ hDL e4
    have r5 : RpA (M ++ [D]) H5 xs acc := RpA.to (a4.wk w5) _ _ r4
    have hDM : D ∈ M ++ [D] := by simp
    have tt5 : To (M ++ [D]) (M ++ [D]) H5 (upd H5 D (.lst (xs ++ [y]))) := fun a o n q => ⟨n, by rw [upd_ne (fun z : a = D => n (by rw [z]; exact hDM))]; exact q⟩
    refine ⟨xs, e5, by rw [r5.length]; exact Nat.lt_of_le_of_lt c.le (Nat.lt_trans hi (by decide)), acc ++ [d], ms5, ⟨fun a o n q => ?_, ⟨a5.nd, a5.sub, fun p hp => ?_, a5.ln, fun k p m e1 e2 => ?_⟩, ?_, xs ++ [y], upd_same, RpA.to tt5 _ _ (r5.append (.cons ry .nil))⟩, hn⟩
    · rw [upd_ne (ne_of_none q hD)]
      exact w5 a o n (w4 a o n (c.w a o n q))
    · by_cases z : p = D
      · subst z; rw [upd_same]; exact fun z => nomatch z
      · rw [upd_ne z]; exact a5.al p hp
    · exact (a5.ok k p m e1 e2).to tt5 (upd_ne (fun z => hDL (z ▸ List.mem_of_getElem? e1)))
    · rw [List.length_append]; have := c.le; simp; exact this
end
theorem e_lcR {g : TG} {js vs : List Nat} (hj : ∀ j ∈ js, j ∈ vs) (h : EA K tA ds ms fun as ms0 => ∃ n : Int, as = [.d (.int n)] ∧ (-(2 ^ 62) ≤ n ∧ n ≤ 10000) ∧ ∃ Pv : Nat → List PyData → List MD → Prop, Pv 0 [] ms0 ∧
      (∀ i acc ms1, i < n.toNat → Pv i acc ms1 → Lt K g js tt te vs ds (.d (.int i)) ms1 acc (Pv (i + 1))) ∧ ∀ acc ms1, Pv n.toNat acc ms1 → R (.f acc) ms1) :
    E K (tLc (iRng1 tA) g tt te vs) ds ms R := fun L M σ H hS hA Q q =>
  h L M σ H hS hA _ fun as us H1 ms0 w a1 o ⟨n, ea, hn, Pv, h0, hs, hd⟩ => by
    subst ea
    obtain ⟨v, t1, rfl, hv, rfl⟩ := o
    cases hv
    refine ⟨n, rfl, hn.1, by have := hn.2; omega, fun D hD => ?_⟩
    have hDL := a1.freshL hD
    refine lc_range (lo := 0) (n := n.toNat) (fun i H' => ∃ acc ms', Cs L M H1 D i acc ms' H' ∧ Pv i acc ms') ⟨[], ms0, .start a1 hD, h0⟩ (fun i H' hi ⟨acc, ms', c, p⟩ => ?_) (fun H' ⟨acc, ms', c, p⟩ => ?_)
    · have e0 : ((0 : Int) + (i : Int)) = (i : Int) := Int.zero_add _
      have := lc_turn (x := .d (.int i)) (v := .int ((0 : Int) + (i : Int))) (Nn := Pv) hj (by have := hn.2; omega) (hS.mono hA w) a1 hD c (by show Rp M H1 (.int (0 + (i : Int))) (.int i); rw [e0]; exact .int _) (hs i acc ms' hi p)
      exact this
    · exact q (.f acc) _ H' ms' (w.trans c.w) ⟨D, rfl, none_back a1 w (a1.fresh hD) hD, a1.fresh hD, c.done a1.sub hDL, a1.sub⟩ (hd acc ms' p)
theorem e_lcL {g : TG} {js vs : List Nat} (hj : ∀ j ∈ js, j ∈ vs) (h : E K tl ds ms fun s ms0 => ∃ es, Sw (dd s) es ∧ es.length ≤ 10000 ∧ ∃ Pv : Nat → List PyData → List MD → Prop, Pv 0 [] ms0 ∧
      (∀ i e acc ms1, es[i]? = some e → Pv i acc ms1 → Lt K g js tt te vs ds (.d e) ms1 acc (Pv (i + 1))) ∧ ∀ acc ms1, Pv es.length acc ms1 → R (.f acc) ms1) :
    E K (tLc (iList K tl) g tt te vs) ds ms R := fun L M σ H hS hA Q q =>
  h L M σ H hS hA _ fun s v H1 ms0 w o ⟨es, sw, hz, Pv, h0, hs, hd⟩ => by
    have a1 := o.at
    obtain ⟨a, xs, rfl, rx, hx⟩ := sw.is a1 o.sl
    refine ⟨a, rfl, ⟨xs, hx H1 (Wk.refl L H1)⟩, fun D hD => ?_⟩
    have hDL := a1.freshL hD
    refine lc_list (xs := xs) (fun i H' => ∃ acc ms', Cs L M H1 D i acc ms' H' ∧ Pv i acc ms') ⟨[], ms0, .start a1 hD, h0⟩ (fun i H' _ ⟨_, _, c, _⟩ => hx H' c.w) (fun i x H' hi ⟨acc, ms', c, p⟩ => ?_) (fun H' ⟨acc, ms', c, p⟩ => ?_)
    · obtain ⟨e, e1, e2⟩ := rx.get' hi
      have hl := (List.getElem?_eq_some_iff.mp e1).1
      exact lc_turn (x := .d e) (v := x) (Nn := Pv) hj (by omega) (hS.mono hA w) a1 hD c e2 (hs i e acc ms' e1 p)
    · rw [rx.length] at p
      exact q (.f acc) _ H' ms' (w.trans c.w) ⟨D, rfl, none_back a1 w (a1.fresh hD) hD, a1.fresh hD, c.done a1.sub hDL, a1.sub⟩ (hd acc ms' p)
theorem e_lcT {g : TG} {js vs : List Nat} (hj : ∀ j ∈ js, j ∈ vs) (h : E K tl ds ms fun s ms0 => ∃ es, s = .d (.tuple es) ∧ es.length ≤ 10000 ∧ ∃ Pv : Nat → List PyData → List MD → Prop, Pv 0 [] ms0 ∧
      (∀ i e acc ms1, es[i]? = some e → Pv i acc ms1 → Lt K g js tt te vs ds (.d e) ms1 acc (Pv (i + 1))) ∧ ∀ acc ms1, Pv es.length acc ms1 → R (.f acc) ms1) :
    E K (tLc (iTup K tl) g tt te vs) ds ms R := fun L M σ H hS hA Q q =>
  h L M σ H hS hA _ fun s v H1 ms0 w o ⟨es, es', hz, Pv, h0, hs, hd⟩ => by
    subst es'
    obtain ⟨a1, z⟩ := o
    cases z with
    | @tup a xs _ na e rx =>
    have hx : ∀ H', Wk L H1 H' → SqT K H' a xs := fun H' w' => SqT.of (w' a _ (fun z => na (a1.sub a z)) e)
    refine ⟨a, rfl, ⟨xs, hx H1 (Wk.refl L H1)⟩, fun D hD => ?_⟩
    have hDL := a1.freshL hD
    refine lc_tup (xs := xs) (fun i H' => ∃ acc ms', Cs L M H1 D i acc ms' H' ∧ Pv i acc ms') ⟨[], ms0, .start a1 hD, h0⟩ (fun i H' _ ⟨_, _, c, _⟩ => hx H' c.w) (fun i x H' hi ⟨acc, ms', c, p⟩ => ?_) (fun H' ⟨acc, ms', c, p⟩ => ?_)
    · obtain ⟨e, e1, e2⟩ := rx.get' hi
      have hl := (List.getElem?_eq_some_iff.mp e1).1
      exact lc_turn (x := .d e) (v := x) (Nn := Pv) hj (by omega) (hS.mono hA w) a1 hD c e2 (hs i e acc ms' e1 p)
    · rw [rx.length] at p
      exact q (.f acc) _ H' ms' (w.trans c.w) ⟨D, rfl, none_back a1 w (a1.fresh hD) hD, a1.fresh hD, c.done a1.sub hDL, a1.sub⟩ (hd acc ms' p)
end
end Hc

namespace Hc
open PySem PySem.Spec PyProof.Rows L2
section
variable {K : PySem.W.Frag} {te ta tb tc tl : TE} {tt : TT} {tA : TA} {ds : List SD} {ms : List MD} {R : RS} {t u : TS} {P : Po}
/-! ### a new thing that may change, until the block's end -/
def frzS (n : Nat) (es : List PyData) : SD → SD
  | .m k => if k = n then .d (.list es) else .m k
  | s => s
def frzR (n : Nat) (es : List PyData) : SD → SD
  | .m k => if k = n then .f es else .m k
  | s => s
def Po.frz (P : Po) (n : Nat) : Po where
  nx := fun ds' ms' => ∃ ms1 es, ms' = ms1 ++ [.l es] ∧ ms1.length = n ∧ P.nx (ds'.map (frzS n es)) ms1
  rt := fun s ms' => ∃ ms1 es, ms' = ms1 ++ [.l es] ∧ ms1.length = n ∧ P.rt (frzR n es s) ms1
  bk := fun ds' ms' => ∃ ms1 es, ms' = ms1 ++ [.l es] ∧ ms1.length = n ∧ P.bk (ds'.map (frzS n es)) ms1
  ct := fun ds' ms' => ∃ ms1 es, ms' = ms1 ++ [.l es] ∧ ms1.length = n ∧ P.ct (ds'.map (frzS n es)) ms1
section
variable {L M : List Addr} {p : Addr} {H H0 H1 : Hp} {ms1 : List MD} {es : List PyData} {N : List SD → List MD → Prop} {C : L2.St → Hp → Prop}
theorem SlOk.frz {s : SD} {v : V} (a : At (L ++ [p]) (M ++ [p]) (ms1 ++ [.l es]) H) (np : p ∉ M) (h : SlOk K (L ++ [p]) (M ++ [p]) H s v) : SlOk K L M H (frzS ms1.length es s) v := by
  have hl : L.length = ms1.length := by have := a.ln; simp at this; exact this
  cases s with
  | u => exact h
  | f _ => exact h
  | d x => exact Rp.to to_less _ _ h
  | v x => exact h
  | s ns =>
    obtain ⟨b, e, ⟨n, q⟩ | q⟩ := h
    · exact ⟨b, e, .inl ⟨fun z => n (List.mem_append_left _ z), q⟩⟩
    · exact ⟨b, e, .inr q⟩
  | m k =>
    obtain ⟨q, rfl, hq⟩ := h
    show SlOk K L M H (if k = ms1.length then .d (.list es) else .m k) _
    by_cases hk : k = ms1.length
    · rw [if_pos hk]
      subst hk
      rw [← hl] at hq
      simp at hq
      subst hq
      obtain ⟨xs, e1, r⟩ := a.last
      exact .lst np e1 (RpA.to to_less _ _ r)
    · rw [if_neg hk]
      have : k < L.length := by
        have := (List.getElem?_eq_some_iff.mp hq).1
        simp at this
        omega
      rw [List.getElem?_append_left this] at hq
      exact ⟨q, rfl, hq⟩
theorem Sl.frz {σ : L2.St} (a : At (L ++ [p]) (M ++ [p]) (ms1 ++ [.l es]) H) (np : p ∉ M) (h : Sl K (L ++ [p]) (M ++ [p]) σ H ds) : Sl K L M σ H (ds.map (frzS ms1.length es)) := fun i s e => by
  rw [List.getElem?_map] at e
  cases q : ds[i]? with
  | none => rw [q] at e; cases e
  | some s0 =>
    rw [q] at e
    have e' : frzS ms1.length es s0 = s := Option.some.inj e
    by_cases hu : s0 = .u
    · subst hu
      subst e'
      exact h i .u q
    · obtain ⟨v, e1, e2⟩ := h.get q hu
      have z := e2.frz a np
      rw [e'] at z
      cases s with
      | u => exact z.elim
      | f _ => exact z.elim
      | d x => exact ⟨v, e1, z⟩
      | m k => exact ⟨v, e1, z⟩
      | s ns => exact ⟨v, e1, z⟩
      | v x => exact ⟨v, e1, z⟩
theorem At.dropMid {q : Addr} {fs : List PyData} (a : At (L ++ [p] ++ [q]) (M ++ [p] ++ [q]) (ms1 ++ [.l es] ++ [.l fs]) H) (sb : ∀ x ∈ L, x ∈ M) : At (L ++ [q]) (M ++ [q]) (ms1 ++ [.l fs]) H := by
  have hl : L.length = ms1.length := by have := a.ln; simp at this; exact this
  have t : To (M ++ [p] ++ [q]) (M ++ [q]) H H := fun b o n e => ⟨fun z => n (by
    rcases List.mem_append.mp z with z | z
    · exact List.mem_append_left _ (List.mem_append_left _ z)
    · exact List.mem_append_right _ z), e⟩
  have nd := a.nd
  refine ⟨?_, ?_, ?_, by simp [hl], fun k x m e1 e2 => ?_⟩
  · rw [List.append_assoc] at nd
    obtain ⟨n1, n2, n3⟩ := List.nodup_append.mp nd
    exact List.nodup_append.mpr ⟨n1, by simp, fun x hx y hy => n3 x hx y (by simp at hy ⊢; exact Or.inr hy)⟩
  · intro x hx
    rcases List.mem_append.mp hx with z | z
    · exact List.mem_append_left _ (sb x z)
    · exact List.mem_append_right _ z
  · intro x hx
    refine a.al x ?_
    rcases List.mem_append.mp hx with z | z
    · exact List.mem_append_left _ (List.mem_append_left _ z)
    · exact List.mem_append_right _ z
  · by_cases hk : k < L.length
    · rw [List.getElem?_append_left hk] at e1
      rw [List.getElem?_append_left (by rw [← hl]; exact hk)] at e2
      refine (a.ok k x m ?_ ?_).toL t (fun k' q' hlt z => by rw [List.append_assoc, List.getElem?_append_left (by omega)] at z; rw [List.getElem?_append_left (by omega)]; exact z) rfl
      · rw [List.append_assoc, List.getElem?_append_left hk]; exact e1
      · rw [List.append_assoc, List.getElem?_append_left (by rw [← hl]; exact hk)]; exact e2
    · have hk2 : k = L.length := by
        have := (List.getElem?_eq_some_iff.mp e1).1
        simp at this
        omega
      subst hk2
      have ex : q = x := by simpa using e1
      subst ex
      rw [hl] at e2
      have em : MD.l fs = m := by simpa using e2
      subst em
      obtain ⟨xs, e, r⟩ := a.last
      exact ⟨xs, e, RpA.to t _ _ r⟩
theorem Out.frz {v : V} {s : SD} (hp0 : H0 p = none) (a : At (L ++ [p]) (M ++ [p]) (ms1 ++ [.l es]) H) (w0 : ∀ q, q ∉ M → q ≠ p → H1 q = none → H0 q = none) (np : p ∉ M) (sb : ∀ x ∈ L, x ∈ M) (h : Out K (L ++ [p]) (M ++ [p]) H1 H (ms1 ++ [.l es]) v s) : Out K L M H0 H ms1 v (frzR ms1.length es s) := by
  have ad := a.drop sb
  cases s with
  | u => exact h.2.elim
  | d x => exact ⟨ad, Rp.to to_less _ _ h.2⟩
  | s ns => exact ⟨ad, SlOk.frz (s := .s ns) a np h.2⟩
  | v x => exact ⟨ad, h.2⟩
  | f fs =>
    obtain ⟨q, rfl, hq, nq, aq, _⟩ := h
    have nqM : q ∉ M := fun z => nq (List.mem_append_left _ z)
    have nqp : q ≠ p := fun z => nq (List.mem_append_right _ (by simp [z]))
    exact ⟨q, rfl, w0 q nqM nqp hq, nqM, aq.dropMid sb, sb⟩
  | m k =>
    have hl : L.length = ms1.length := by have := a.ln; simp at this; exact this
    obtain ⟨_, q, rfl, hq⟩ := h
    show Out K L M H0 H ms1 _ (if k = ms1.length then .f es else .m k)
    by_cases hk : k = ms1.length
    · rw [if_pos hk]
      subst hk
      rw [← hl] at hq
      simp at hq
      subst hq
      exact ⟨p, rfl, hp0, np, a, sb⟩
    · rw [if_neg hk]
      have : k < L.length := by
        have := (List.getElem?_eq_some_iff.mp hq).1
        simp at this
        omega
      rw [List.getElem?_append_left this] at hq
      exact ⟨ad, q, rfl, hq⟩
end
theorem append_inj_last {ms1 ms2 : List MD} {m1 m2 : MD} (h : ms1 ++ [m1] = ms2 ++ [m2]) : ms1 = ms2 ∧ m1 = m2 := by
  have := List.append_inj' h rfl
  exact ⟨this.1, by simpa using this.2⟩
theorem s_new {i : Nat} (h : E K te ds ms fun s ms1 => ∃ es, s = .f es ∧ S K u (ds.set i (.m ms1.length)) (ms1 ++ [.l es]) (P.frz ms1.length)) : S K (tSeq (tAsg te (gName i)) u) ds ms P := fun L M σ H hS hA D n r b c =>
  h L M σ H hS hA _ fun s v H1 ms1 w o ⟨es, e, h1⟩ => by
    subst e
    obtain ⟨p, rfl, hp, np, a1, sb⟩ := o
    have hl : L.length = ms1.length := by have := a1.ln; simp at this; exact this
    have npL : p ∉ L := fun z => np (hA.sub p z)
    have t : To M (M ++ [p]) H H1 := to_new hA hp w
    have hS1 : Sl K (L ++ [p]) (M ++ [p]) (σ.set i (some (.ref p))) H1 (ds.set i (.m ms1.length)) := by
      refine (hS.to t fun k q e => ?_).set i ⟨p, rfl, by rw [← hl]; simp⟩
      rw [List.getElem?_append_left (List.getElem?_eq_some_iff.mp e).1]
      exact e
    have wk : ∀ {H2 : Hp}, Wk (L ++ [p]) H1 H2 → Wk L H H2 := fun {H2} w2 x y nx ex => w2 x y (fun z => (List.mem_append.mp z).elim nx fun z => ne_of_none ex hp (by simpa using z)) (w x y nx ex)
    have go : ∀ {N : List SD → List MD → Prop} {C : L2.St → Hp → Prop}, Nx K L M H N C → Nx K (L ++ [p]) (M ++ [p]) H1 (fun ds' ms' => ∃ ms1' es, ms' = ms1' ++ [.l es] ∧ ms1'.length = ms1.length ∧ N (ds'.map (frzS ms1.length es)) ms1') C := by
      intro N C nn σ2 H2 ds2 ms2 w2 s2 a2 ⟨ms3, es3, e3, l3, n3⟩
      subst e3
      rw [← l3] at n3
      exact nn σ2 H2 _ ms3 (wk w2) (s2.frz a2 np) (a2.drop sb) n3
    refine h1 (L ++ [p]) (M ++ [p]) _ H1 hS1 a1 D (go n) ?_ (go b) (go c)
    intro s2 v2 H2 ms2 w2 o2 ⟨ms3, es3, e3, l3, n3⟩
    subst e3
    rw [← l3] at n3
    refine r _ v2 H2 ms3 (wk w2) ?_ n3
    refine Out.frz hp o2.at (fun q hq hqp hq1 => ?_) np sb o2
    cases e : H q with
    | none => rfl
    | some oo => rw [w q oo (fun z => hq (hA.sub q z)) e] at hq1; cases hq1
/-! ### a whole def -/
theorem SlsOk.len {L M : List Addr} {H : Hp} : ∀ {as : List SD} {vs : List V}, SlsOk K L M H as vs → as.length = vs.length
  | [], _, h => by cases h; rfl
  | s :: r, _, ⟨v, t, e, a, b⟩ => by subst e; simp [SlsOk.len b]
theorem SlsOk.get {L M : List Addr} {H : Hp} : ∀ {as : List SD} {vs : List V} {i : Nat} {s : SD}, SlsOk K L M H as vs → as[i]? = some s → ∃ v, vs[i]? = some v ∧ SlOk K L M H s v
  | [], _, _, _, h, e => by simp at e
  | s :: r, _, 0, _, ⟨v, t, e, a, b⟩, e2 => by subst e; simp at e2; subst e2; exact ⟨v, rfl, a⟩
  | s :: r, _, i + 1, x, ⟨v, t, e, a, b⟩, e2 => by
    subst e
    obtain ⟨v2, e3, e4⟩ := SlsOk.get (i := i) (s := x) b (by simpa using e2)
    exact ⟨v2, by simpa using e3, e4⟩
theorem Sl.start {L M : List Addr} {H : Hp} {N : List Str} {as : List SD} {vs : List V} (h : SlsOk K L M H as vs) (hn : as.length ≤ N.length) : Sl K L M (start N vs) H (as ++ List.replicate (N.length - as.length) .u) := fun i s e => by
  have hl := h.len
  by_cases hi : i < as.length
  · rw [List.getElem?_append_left hi] at e
    obtain ⟨v, e1, e2⟩ := h.get e
    have e3 : (L2.start N vs)[i]? = some (some v) := by
      unfold L2.start
      rw [List.getElem?_append_left (by simp [← hl]; exact hi), List.getElem?_map, e1]
      rfl
    cases s with
    | u => exact e2.elim
    | f _ => exact e2.elim
    | d x => exact ⟨v, e3, e2⟩
    | m k => exact ⟨v, e3, e2⟩
    | s ns => exact ⟨v, e3, e2⟩
    | v x => exact ⟨v, e3, e2⟩
  · rw [List.getElem?_append_right (by omega)] at e
    have hs : s = .u := by
      have := List.mem_of_getElem? e
      exact (List.mem_replicate.mp this).2
    subst hs
    show i < (L2.start N vs).length
    have := (List.getElem?_eq_some_iff.mp e).1
    unfold L2.start
    simp at this ⊢
    omega
def fin (R : RS) : Po where
  nx := fun _ ms' => R (.d .none) ms'
  rt := R
  bk := fun _ _ => False
  ct := fun _ _ => False
theorem read_of {N : List Str} {Φ : Ph} {vs : List V} {H : Hp} {Q : VK} {X : XK} (hn : ∀ as ms R, Φ as ms R → as.length ≤ N.length) (h : ∀ as ms R, Φ as ms R → S K t (as ++ List.replicate (N.length - as.length) .u) ms (fin R)) (hs : SpD K Φ vs H Q X) :
    t { nx := fun _ H' => Q .non H', rt := Q } (start N vs) H := by
  obtain ⟨L, M, ms, as, R, hA, ho, hp, q⟩ := hs
  exact h as ms R hp L M _ H (Sl.start ho (hn _ _ _ hp)) hA _ (fun σ' H' ds' ms' w s a r => q (.d .none) .non H' ms' w ⟨a, .non⟩ r) (fun s v H' ms' w o r => q s v H' ms' w o r) (fun _ _ _ _ _ _ _ z => z.elim) (fun _ _ _ _ _ _ _ z => z.elim)
end
section
variable {Pg : Program} {w : World} {K : PySem.W.Frag} {mg : Str → Option Value} {base : Heap}
/-- a def that keeps Φ -/
theorem ok_of {x qual : Str} {st : Stmt} {f : Addr} {fd : FuncData} {N ps : List Str} {k : Nat} {Φ : Ph} (F : Fun K x qual st f fd) (Sc : FnScope N ps (defScope st)) (hl : ∀ as ms R, Φ as ms R → as.length = ps.length) (hpn : ps.length ≤ N.length)
    (hbody : ∀ (cdv : Value) (A : Around) (outer : List Env) (s : Shared) (H : Hp) (E : XK), Room k (A.deeper (envOfC qual (defScope st) s.heap.objs.size f cdv)) →
      ∃ t, PSs (cxOf CX0 Pg w K mg base N qual (defScope st) f cdv A outer s H E).nox (defBody st) t ∧ ∀ as ms R, Φ as ms R → S K t (as ++ List.replicate (N.length - as.length) .u) ms (fin R)) : FnOk Pg w K mg base CX0 (k + 1) f fd ps (SpD K Φ) := by
  refine F.ok Sc (fun vs H Q E h => ?_) (fun cdv A outer s H vs Q E hr h => ?_)
  · obtain ⟨L, M, ms, as, R, hA, ho, hp, q⟩ := h
    rw [← ho.len]
    exact hl as ms R hp
  · obtain ⟨t, h1, h2⟩ := hbody cdv A outer s H E hr
    exact ⟨t, h1, read_of (fun as ms R z => by rw [hl as ms R z]; exact hpn) h2 h⟩
end
end Hc

namespace Hc
open PySem PySem.Spec PyProof.Rows L2
abbrev rAddI : R2 := rI0 fun i j => .int (i + j)
abbrev rSubI : R2 := rI0 fun i j => .int (i - j)
abbrev rMulI : R2 := rI CMul fun i j => .int (i * j)
abbrev rModN : R2 := rI (fun _ j => j ≠ 0) fun i j => .int (i.fmod j)
abbrev rPowI : R2 := rI CPow fun i j => .int (i ^ j.toNat)
abbrev rXorI : R2 := rI0 fun i j => .int (Builtin.bitXor i j)
abbrev rLtI : R2 := rI0 fun i j => .bl (decide (i < j))
abbrev rLeI : R2 := rI0 fun i j => .bl (decide (i ≤ j))
abbrev rGtI : R2 := rI0 fun i j => .bl (decide (j < i))
abbrev rGeI : R2 := rI0 fun i j => .bl (decide (j ≤ i))
abbrev rNegI : V → Hp → VK → Prop := rU fun i => .int (-i)
abbrev rAddStr : R2 := fun x y H Q => ∃ i j, x = .str i ∧ y = .str j ∧ i.length + j.length ≤ sizeLine ∧ Q (.str (i ++ j)) H
abbrev rIsNn : R2 := fun x y H Q => y = .non ∧ Q (.bl (decide (x = .non))) H
abbrev rNotNn : R2 := fun x y H Q => y = .non ∧ Q (.bl (!decide (x = .non))) H
abbrev rAbs : List V → Hp → VK → Prop := fun xs H Q => ∃ i, xs = [.int i] ∧ Q (.int (if i < 0 then -i else i)) H
abbrev rMaxI : List V → Hp → VK → Prop := fun xs H Q => ∃ i j, xs = [.int i, .int j] ∧ Q (.int (if j > i then j else i)) H
abbrev rMinI : List V → Hp → VK → Prop := fun xs H Q => ∃ i j, xs = [.int i, .int j] ∧ Q (.int (if j < i then j else i)) H
abbrev rStrI : List V → Hp → VK → Prop := fun xs H Q => ∃ i : Int, xs = [.int i] ∧ i.natAbs.log2 < 1920 ∧ Q (.str (toString i)) H
abbrev rLenQ (K : PySem.W.Frag) : List V → Hp → VK → Prop := fun xs H Q => ∃ p ys, xs = [.ref p] ∧ (SqL K H p ys ∨ SqT K H p ys) ∧ Q (.int ys.length) H
abbrev rTupQ (K : PySem.W.Frag) : List V → Hp → VK → Prop := fun xs H Q => ∃ p ys, xs = [.ref p] ∧ ((SqL K H p ys ∧ ∀ l, H l = none → Q (.ref l) (upd H l (.tup ys))) ∨ (SqT K H p ys ∧ Q (.ref p) H))
abbrev rListQ (K : PySem.W.Frag) : List V → Hp → VK → Prop := fun xs H Q => ∃ p ys, xs = [.ref p] ∧ (SqL K H p ys ∨ SqT K H p ys) ∧ ∀ l, H l = none → Q (.ref l) (upd H l (.lst ys))
/-- sizes -/
@[irreducible] def Bd (n : Nat) (i : Int) : Prop := i.natAbs < 2 ^ n
def CMulX (i j : Int) : Prop := Bd 100000 i ∧ Bd 100000 j
def CDivX (_ j : Int) : Prop := j ≠ 0 ∧ Bd 8000 j
abbrev rMulX : R2 := rI CMulX fun i j => .int (i * j)
abbrev rDivX : R2 := rI CDivX fun i j => .int (i.fdiv j)
theorem Bd.iff {n : Nat} {i : Int} : Bd n i ↔ i.natAbs < 2 ^ n := by unfold Bd; exact Iff.rfl
theorem Bd.mono {m n : Nat} {i : Int} (h : Bd m i) (l : m ≤ n) : Bd n i := Bd.iff.mpr (Nat.lt_of_lt_of_le (Bd.iff.mp h) (Nat.pow_le_pow_right (by decide) l))
theorem Bd.mul {m n : Nat} {i j : Int} (a : Bd m i) (b : Bd n j) : Bd (m + n) (i * j) := Bd.iff.mpr (wide_lt (Bd.iff.mp a) (Bd.iff.mp b))
theorem Bd.add {m : Nat} {i j : Int} (a : Bd m i) (b : Bd m j) : Bd (m + 1) (i + j) := by
  have ha := Bd.iff.mp a
  have hb := Bd.iff.mp b
  refine Bd.iff.mpr ?_
  rw [Nat.pow_succ]
  have := Int.natAbs_add_le i j
  omega
theorem Bd.neg {m : Nat} {i : Int} (a : Bd m i) : Bd m (-i) := Bd.iff.mpr (by rw [Int.natAbs_neg]; exact Bd.iff.mp a)
theorem Bd.sub {m : Nat} {i j : Int} (a : Bd m i) (b : Bd m j) : Bd (m + 1) (i - j) := by
  rw [Int.sub_eq_add_neg]
  exact a.add b.neg
theorem Bd.le {m : Nat} {i j : Int} (a : Bd m j) (h : i.natAbs ≤ j.natAbs) : Bd m i := Bd.iff.mpr (Nat.lt_of_le_of_lt h (Bd.iff.mp a))
theorem Bd.of {n : Nat} {i : Int} (h : i.natAbs < 2 ^ n) : Bd n i := Bd.iff.mpr h
section
variable {X : Cx}
theorem op_mulX : OpR X (binaryOp .Mult) rMulX := opI fun _ _ _ _ _ _ _ hc q => mul_int q (CMulW.ok (wide_mul (Bd.iff.mp hc.1) (Bd.iff.mp hc.2) (by decide) (by decide) (by decide)))
theorem op_fdivX : OpR X (binaryOp .FloorDiv) rDivX := opI fun i j _ _ _ _ _ hc q => floordiv_int hc.1 q (.inl (PyProof.noPylong_of_log2 (Nat.lt_trans (PySem.Flt.log2_lt_of (by decide) (Bd.iff.mp hc.2)) (by decide))))
end
section
variable {K : PySem.W.Frag} {te ta tb tc tl : TE} {tt : TT} {tA : TA} {ds : List SD} {ms : List MD} {R : RS} {t u : TS} {P : Po}
theorem e_dnew (h : ∀ kvs, R (.d (.dict kvs)) ms) : E K tDNewK ds ms R := fun L M σ H hS hA Q q => fun p hp => q (.d (.dict [])) _ _ ms (Wk.new hp) ⟨hA.new hp, .dct (hA.fresh hp) upd_same⟩ (h [])
theorem rr_ix {a b : SD} (h : ∃ es i d, (Sv ms a (.list es) ∨ Sv ms a (.tuple es)) ∧ b = .d (.int i) ∧ atI es i = some d ∧ R (.d d) ms) : RR K (rIx K) a b ms R := fun L M H x y hA ha hb Q q => by
  obtain ⟨es, i, d, sa | sa, e1, e2, r⟩ := h
  · exact .inl (rr_ixL ⟨es, i, d, sa, e1, e2, r⟩ L M H x y hA ha hb Q q)
  · exact .inr (.inl (rr_ixT ⟨es, i, d, sa, e1, e2, r⟩ L M H x y hA ha hb Q q))
end
/-! ### defs by name -/
structure Kn (Pg : Program) (w : World) (K : PySem.W.Frag) (mg : Str → Option Value) (base : Heap) (x : Str) (lv : Nat) (ps : List Str) (Φ : Ph) : Prop where
  ex : ∃ f fd, FnOk Pg w K mg base CX0 lv f fd ps (SpD K Φ) ∧ mg x = some (.ref f) ∧ PySem.W.keepIn K (.ref f) = true ∧ Binds K fd ps []
theorem pe_callD {X : Cx} {x : Str} {lv : Nat} {ps : List Str} {Φ : Ph} {e : Expr} {es : List Expr} {t : TA} {p pos : Pos} (h : Kn X.prog X.w X.K X.mg X.base x lv ps Φ) (hr : Room lv X.A) (hg : Gl X x) (ha : PA X (e :: es) t)
    (hdb : (x == ("__debug__" : Str)) = false := by decide) (he : starEach (e :: es) X.env = (false, eval e X.env) :: starEach es X.env := by rfl) (hpl : (backTo pos (starEach es X.env)).any (·.1) = false := by rfl) :
    PE X (.Call (.Name x p) (e :: es) [] pos) (tCall (SpD X.K Φ) [] E0 t) := by
  obtain ⟨f, fd, G, m, k, b⟩ := h.ex
  exact pe_call G hr hg m k b .nil pass0 ha hdb he hpl
def ph1 (f : SD → List MD → RS → Prop) : Ph := fun as ms R => ∃ a, as = [a] ∧ f a ms R
def ph2 (f : SD → SD → List MD → RS → Prop) : Ph := fun as ms R => ∃ a b, as = [a, b] ∧ f a b ms R
def ph3 (f : SD → SD → SD → List MD → RS → Prop) : Ph := fun as ms R => ∃ a b c, as = [a, b, c] ∧ f a b c ms R
def ph4 (f : SD → SD → SD → SD → List MD → RS → Prop) : Ph := fun as ms R => ∃ a b c d, as = [a, b, c, d] ∧ f a b c d ms R
theorem ph1_len {f : SD → List MD → RS → Prop} : ∀ as ms R, ph1 f as ms R → as.length = 1 := fun _ _ _ ⟨_, e, _⟩ => by rw [e]; rfl
theorem ph2_len {f : SD → SD → List MD → RS → Prop} : ∀ as ms R, ph2 f as ms R → as.length = 2 := fun _ _ _ ⟨_, _, e, _⟩ => by rw [e]; rfl
theorem ph3_len {f : SD → SD → SD → List MD → RS → Prop} : ∀ as ms R, ph3 f as ms R → as.length = 3 := fun _ _ _ ⟨_, _, _, e, _⟩ => by rw [e]; rfl
theorem ph4_len {f : SD → SD → SD → SD → List MD → RS → Prop} : ∀ as ms R, ph4 f as ms R → as.length = 4 := fun _ _ _ ⟨_, _, _, _, e, _⟩ => by rw [e]; rfl
/-- the script at the law's door -/
theorem at_door {K : PySem.W.Frag} {H : Hp} {a : Addr} {ns : List Int} (hO : Only H) (hS : SqL K H a (ns.map V.int)) : SlOk K [] [] H (.s ns) (.ref a) := by
  refine ⟨a, rfl, ?_⟩
  rcases hS with h | h
  · exact .inl ⟨by simp, h⟩
  · exact .inr fun H' => .inr h
theorem at_nil {H : Hp} : At [] [] [] H := ⟨List.nodup_nil, fun _ h => by simp at h, fun _ h => by simp at h, rfl, fun _ _ _ h => by simp at h⟩
end Hc

namespace Hc
open PySem PySem.Spec PyProof.Rows L2
theorem instInt (d : PyData) : kitB (tyN d) "int" = some (inst d "int") := by
  have h : ∀ n : String, n ∈ ["NoneType", "bool", "int", "str", "list", "tuple", "dict"] → kitB n "int" = some ((kitB n "int").getD false) := by decide +kernel
  cases d <;> exact h _ (by simp [tyN])
theorem instBool (d : PyData) : kitB (tyN d) "bool" = some (inst d "bool") := by
  have h : ∀ n : String, n ∈ ["NoneType", "bool", "int", "str", "list", "tuple", "dict"] → kitB n "bool" = some ((kitB n "bool").getD false) := by decide +kernel
  cases d <;> exact h _ (by simp [tyN])
theorem instTuple (d : PyData) : kitB (tyN d) "tuple" = some (inst d "tuple") := by
  have h : ∀ n : String, n ∈ ["NoneType", "bool", "int", "str", "list", "tuple", "dict"] → kitB n "tuple" = some ((kitB n "tuple").getD false) := by decide +kernel
  cases d <;> exact h _ (by simp [tyN])
theorem instList (d : PyData) : kitB (tyN d) "list" = some (inst d "list") := by
  have h : ∀ n : String, n ∈ ["NoneType", "bool", "int", "str", "list", "tuple", "dict"] → kitB n "list" = some ((kitB n "list").getD false) := by decide +kernel
  cases d <;> exact h _ (by simp [tyN])
theorem instStr (d : PyData) : kitB (tyN d) "str" = some (inst d "str") := by
  have h : ∀ n : String, n ∈ ["NoneType", "bool", "int", "str", "list", "tuple", "dict"] → kitB n "str" = some ((kitB n "str").getD false) := by decide +kernel
  cases d <;> exact h _ (by simp [tyN])
def isWhole : PyData → Bool
  | .int _ => true
  | _ => false
def isTup : PyData → Bool
  | .tuple _ => true
  | _ => false
def isLst : PyData → Bool
  | .list _ => true
  | _ => false
def isRow : PyData → Bool
  | .list _ => true
  | .tuple _ => true
  | _ => false
theorem inst_tup (x : PyData) : inst x "tuple" = isTup x := by
  cases x with
  | none => exact (by decide +kernel : inst .none "tuple" = false)
  | bool b => exact (by decide +kernel : inst (.bool true) "tuple" = false)
  | int i => exact (by decide +kernel : inst (.int 0) "tuple" = false)
  | str s => exact (by decide +kernel : inst (.str "") "tuple" = false)
  | list s => exact (by decide +kernel : inst (.list []) "tuple" = false)
  | tuple s => exact (by decide +kernel : inst (.tuple []) "tuple" = true)
  | dict s => exact (by decide +kernel : inst (.dict []) "tuple" = false)
theorem inst_lst (x : PyData) : inst x "list" = isLst x := by
  cases x with
  | none => exact (by decide +kernel : inst .none "list" = false)
  | bool b => exact (by decide +kernel : inst (.bool true) "list" = false)
  | int i => exact (by decide +kernel : inst (.int 0) "list" = false)
  | str s => exact (by decide +kernel : inst (.str "") "list" = false)
  | list s => exact (by decide +kernel : inst (.list []) "list" = true)
  | tuple s => exact (by decide +kernel : inst (.tuple []) "list" = false)
  | dict s => exact (by decide +kernel : inst (.dict []) "list" = false)
theorem inst_row (x : PyData) : (inst x "list" || inst x "tuple") = isRow x := by rw [inst_lst, inst_tup]; cases x <;> rfl
theorem whole_and (x : PyData) : (inst x "int" && !inst x "bool") = isWhole x := by
  cases x with
  | none => exact (by decide +kernel : (inst .none "int" && !inst .none "bool") = false)
  | bool b => exact (by decide +kernel : (inst (.bool true) "int" && !inst (.bool true) "bool") = false)
  | int i => exact (by decide +kernel : (inst (.int 0) "int" && !inst (.int 0) "bool") = true)
  | str s => exact (by decide +kernel : (inst (.str "") "int" && !inst (.str "") "bool") = false)
  | list s => exact (by decide +kernel : (inst (.list []) "int" && !inst (.list []) "bool") = false)
  | tuple s => exact (by decide +kernel : (inst (.tuple []) "int" && !inst (.tuple []) "bool") = false)
  | dict s => exact (by decide +kernel : (inst (.dict []) "int" && !inst (.dict []) "bool") = false)
theorem whole_inv {x : PyData} (h : isWhole x = true) : ∃ i, x = .int i := by
  cases x with
  | int i => exact ⟨i, rfl⟩
  | _ => cases h
theorem tup_inv {x : PyData} (h : isTup x = true) : ∃ i, x = .tuple i := by
  cases x with
  | tuple i => exact ⟨i, rfl⟩
  | _ => cases h
/-! ### numbers -/
theorem abs_nat (i : Int) : (if i < 0 then -i else i) = (i.natAbs : Int) := by split <;> omega
theorem fmod_nat (x y : Nat) : Int.fmod (x : Int) (y : Int) = ((x % y : Nat) : Int) := by
  rw [Int.fmod_eq_emod_of_nonneg _ (by omega)]
  rfl
theorem gcd_step (x y : Nat) : Nat.gcd y (x % y) = Nat.gcd x y := by
  rw [Nat.gcd_comm y (x % y), ← Nat.gcd_rec, Nat.gcd_comm]
abbrev pr (p : Int × Int) : PyData := .tuple [.int p.1, .int p.2]
/-- the fraction of two ints -/
def fr (i j : Int) : Int × Int := if j < 0 then (i.fdiv (-(Int.gcd i j : Int)), j.fdiv (-(Int.gcd i j : Int))) else (i.fdiv (Int.gcd i j), j.fdiv (Int.gcd i j))
theorem fr_is {i j : Int} (hj : j ≠ 0) : ∃ c : Int, c ≠ 0 ∧ (0 < c ↔ 0 < j) ∧ c.natAbs = Int.gcd i j ∧ i = (fr i j).1 * c ∧ j = (fr i j).2 * c := by
  have hg : 0 < Int.gcd i j := Int.gcd_pos_of_ne_zero_right i hj
  have d1 : (Int.gcd i j : Int) ∣ i := Int.gcd_dvd_left ..
  have d2 : (Int.gcd i j : Int) ∣ j := Int.gcd_dvd_right ..
  unfold fr
  by_cases h : j < 0
  · rw [if_pos h]
    refine ⟨-(Int.gcd i j : Int), by omega, by omega, by omega, ?_, ?_⟩
    · exact (Int.fdiv_mul_cancel (Int.neg_dvd.mpr d1)).symm
    · exact (Int.fdiv_mul_cancel (Int.neg_dvd.mpr d2)).symm
  · rw [if_neg h]
    refine ⟨(Int.gcd i j : Int), by omega, by omega, by omega, ?_, ?_⟩
    · exact (Int.fdiv_mul_cancel d1).symm
    · exact (Int.fdiv_mul_cancel d2).symm
theorem fr_pos {i j : Int} (hj : j ≠ 0) : 0 < (fr i j).2 := by
  obtain ⟨c, c0, cs, _, _, e⟩ := fr_is (i := i) hj
  by_cases h : 0 < j
  · have hc := cs.mpr h
    rw [e] at h
    exact Int.pos_of_mul_pos_left h hc
  · have hc : c < 0 := by
      have : ¬ 0 < c := fun z => h (cs.mp z)
      omega
    have hn : (fr i j).2 * c < 0 := by rw [← e]; omega
    exact Int.pos_of_mul_neg_left hn hc
theorem fr_low {i j : Int} (hj : j ≠ 0) : Int.gcd (fr i j).1 (fr i j).2 = 1 := by
  obtain ⟨c, c0, cs, cg, e1, e2⟩ := fr_is (i := i) hj
  have h : Int.gcd i j = Int.gcd (fr i j).1 (fr i j).2 * c.natAbs := by
    have := Int.gcd_mul_right (fr i j).1 c (fr i j).2
    rw [← e1, ← e2] at this
    exact this
  have hg : 0 < Int.gcd i j := Int.gcd_pos_of_ne_zero_right i hj
  rw [cg] at h
  have h1 : 1 * Int.gcd i j = Int.gcd (fr i j).1 (fr i j).2 * Int.gcd i j := by rw [Nat.one_mul]; exact h
  exact (Nat.eq_of_mul_eq_mul_right hg h1).symm
theorem fr_cross {i j : Int} (hj : j ≠ 0) : (fr i j).1 * j = i * (fr i j).2 := by
  obtain ⟨c, c0, cs, cg, e1, e2⟩ := fr_is (i := i) hj
  generalize (fr i j).1 = x at *
  generalize (fr i j).2 = y at *
  subst e1 e2
  rw [Int.mul_assoc, Int.mul_comm c y]
theorem fr_le {i j : Int} (hj : j ≠ 0) : (fr i j).1.natAbs ≤ i.natAbs ∧ (fr i j).2.natAbs ≤ j.natAbs := by
  obtain ⟨c, c0, cs, cg, e1, e2⟩ := fr_is (i := i) hj
  have hc : 1 ≤ c.natAbs := by omega
  generalize (fr i j).1 = x at *
  generalize (fr i j).2 = y at *
  subst e1 e2
  rw [Int.natAbs_mul, Int.natAbs_mul]
  exact ⟨Nat.le_mul_of_pos_right _ hc, Nat.le_mul_of_pos_right _ hc⟩
theorem fr_bd {n : Nat} {i j : Int} (hj : j ≠ 0) (a : Bd n i) (b : Bd n j) : Bd n (fr i j).1 ∧ Bd n (fr i j).2 := ⟨a.le (fr_le hj).1, b.le (fr_le hj).2⟩
theorem co_dvd {a b d : Int} (g : Int.gcd a b = 1) (h : b ∣ a * d) : b ∣ d := by
  have h1 : b.natAbs ∣ a.natAbs * d.natAbs := by
    rw [← Int.natAbs_mul]
    exact Int.natAbs_dvd_natAbs.mpr h
  have h2 : Nat.Coprime b.natAbs a.natAbs := by
    rw [Nat.coprime_comm]
    exact g
  exact Int.natAbs_dvd_natAbs.mp (Nat.Coprime.dvd_of_dvd_mul_left h2 h1)
/-- lowest terms are told once -/
theorem low_uniq {a b c d : Int} (hb : 0 < b) (hd : 0 < d) (g1 : Int.gcd a b = 1) (g2 : Int.gcd c d = 1) (h : a * d = c * b) : a = c ∧ b = d := by
  have d1 : b ∣ d := by
    have : b ∣ a * d := ⟨c, by rw [h, Int.mul_comm]⟩
    exact co_dvd g1 this
  have d2 : d ∣ b := by
    have : d ∣ c * b := ⟨a, by rw [← h, Int.mul_comm]⟩
    exact co_dvd g2 this
  have e : b = d := Int.dvd_antisymm (by omega) (by omega) d1 d2
  subst e
  exact ⟨Int.eq_of_mul_eq_mul_right (by omega) h, rfl⟩
def isFrac : PyData → Bool
  | .tuple [.int a, .int b] => decide (1 ≤ b) && decide (Int.gcd a b = 1)
  | _ => false
theorem isFrac_len {xs : List PyData} (h : xs.length ≠ 2) : isFrac (.tuple xs) = false := by
  unfold isFrac
  split
  · simp_all
  · rfl
theorem isFrac_one {p q : PyData} (h : isWhole p = false) : isFrac (.tuple [p, q]) = false := by
  unfold isFrac
  split
  · simp_all [isWhole]
  · rfl
theorem isFrac_two {p q : PyData} (h : isWhole q = false) : isFrac (.tuple [p, q]) = false := by
  unfold isFrac
  split
  · simp_all [isWhole]
  · rfl
theorem isFrac_kind {p : PyData} (h : isTup p = false) : isFrac p = false := by
  unfold isFrac
  split
  · simp_all [isTup]
  · rfl
theorem eqv_int (i j : Int) : PyData.eqv (.int i) (.int j) = decide (i = j) := by
  rw [PyData.eqv]
  by_cases h : i = j
  · subst h; simp
  · simp [h]
theorem shaped_int (i : Int) : SeqAt.shaped (.int i) = true := by simp [SeqAt.shaped, PyData.canLay0, PyData.depth]
end Hc

namespace Hc
open PySem PySem.Spec PyProof.Rows L2
/-! ### a tuple times one is itself -/
theorem tuple_mul1 (l : Addr) (items : Array Value) (n : Nat) (dd : Option Addr) (sl : Array (Option Value)) (u : Tok) :
    Meets (Builtin.«tuple.__mul__» ⟨[.ref l, .int 1 u], []⟩) (fun _ R s => s.heap.get? l = some { cls := .type "tuple", dict := dd, data := .seq items n, slots := sl } ∧ R (.ok (.ret (.ref l))) s) :=
  .of_wp fun prog w A R s h => by
    obtain ⟨hp, g, d, tk, os⟩ := s
    obtain ⟨hl, h⟩ := h
    have f1 := AutoSeq1.idx_int
    have c1 : (items.isEmpty || (1 : Int) == 1) = true := by simp
    wp_walk using wpAny_loadPart' hl
    repeat (first
      | (refine wpAny_ite_false (by decide) ?_; wp_walk using wpAny_loadPart' hl)
      | (refine wpAny_ite_true (decide_eq_true c1) ?_; wp_walk using wpAny_loadPart' hl))
    all_goals first | exact ⟨_, rfl, h⟩ | skip
def rRepQ (K : PySem.W.Frag) : R2 := fun x y H Q => (∃ l xs, x = .ref l ∧ y = .int 1 ∧ SqT K H l xs ∧ Q (.ref l) H) ∨ rRepT K x y H Q
theorem op_repQ {X : Cx} : OpR X (binaryOp .Mult) (rRepQ X.K) := by
  intro pins s σ H x y v u Q I rx ry h
  rcases h with ⟨l, xs, rfl, rfl, hT, q⟩ | h
  · cases rx
    obtain ⟨t, rfl⟩ := ry
    obtain ⟨its, r, ⟨⟨cls, dd, data, sl⟩, ho, hc, n, hd⟩, hs⟩ := I.tuple hT
    simp only at hc hd
    subst hc hd
    exact wpAny_binaryOp_repeat_ref (T := "tuple") (U := "int") (by decide) ⟨_, ho, rfl⟩
      (fun s' => typeIs_int s' 1 t) noFill_tuple_mul F.fills_int_mul F.slot_int_rmul repeat_tuple
      F.slot_int_index.lookup
      (call_meets F.slot_int_rmul (typeIs_int s 1 t) F.entry_int_rmul (F.args_int_rmul_2 _ _)
        (int_rmul_tuple 1 t l its.toArray n dd sl) ⟨ho, rfl, ⟨_, ho, rfl⟩,
          call_meets F.slot_tuple_mul ⟨_, ho, rfl⟩ F.entry_tuple_mul (F.args_tuple_mul_2 _ _)
            (tuple_mul1 l its.toArray n dd sl t) ⟨ho, ⟨.ref l, H, I, rfl, q⟩⟩⟩)
  · exact op_repT pins s σ H x y v u Q I rx ry h
section
variable {K : PySem.W.Frag} {te ta tb tc tl : TE} {tt : TT} {tA : TA} {ds : List SD} {ms : List MD} {R : RS} {t u : TS} {P : Po}
theorem rr_rep1 {a b : SD} (h : ∃ (e : PyData) (k : Int), a = .d (.tuple [e]) ∧ b = .d (.int k) ∧ 1 ≤ k ∧ k ≤ 1000 ∧ R (.d (.tuple (List.replicate k.toNat e))) ms) : RR K (rRepQ K) a b ms R := fun L M H x y hA ha hb Q q => by
  obtain ⟨e, k, rfl, rfl, h1, h2, r⟩ := h
  cases hb
  have ha2 : Rp M H x (.tuple [e]) := ha
  cases ha2 with
  | @tup p xs _ np ep rp =>
    obtain ⟨v, rfl⟩ : ∃ v, xs = [v] := by
      cases rp with
      | cons z y => cases y; exact ⟨_, rfl⟩
    by_cases hk : k = 1
    · subst hk
      exact .inl ⟨p, [v], rfl, rfl, SqT.of ep, q (.d (.tuple [e])) _ H ms (Wk.refl L H) ⟨hA, ha⟩ r⟩
    · refine .inr ⟨p, k, [v], rfl, rfl, SqT.of ep, by simp, by omega, h2, by simp, fun l hl => ?_⟩
      have rr : ∀ m : Nat, RpA M H (List.replicate m [v]).flatten (List.replicate m e) := fun m => by
        induction m with
        | zero => exact .nil
        | succ m ih =>
          rw [List.replicate_succ, List.replicate_succ, List.flatten_cons]
          cases rp with
          | cons z y => exact .cons z ih
      exact q (.d (.tuple (List.replicate k.toNat e))) _ _ ms (Wk.new hl) ⟨hA.new hl, .tup (hA.fresh hl) upd_same (RpA.to (hA.wk (Wk.new hl)) _ _ (rr k.toNat))⟩ r
theorem rr_catT {a b : SD} (h : ∃ es fs, a = .d (.tuple es) ∧ b = .d (.tuple fs) ∧ es ≠ [] ∧ es.length + fs.length ≤ 10000 ∧ R (.d (.tuple (es ++ fs))) ms) : RR K (rCatT K) a b ms R := fun L M H x y hA ha hb Q q => by
  obtain ⟨es, fs, rfl, rfl, hne, hz, r⟩ := h
  have ha2 : Rp M H x (.tuple es) := ha
  have hb2 : Rp M H y (.tuple fs) := hb
  cases ha2 with
  | @tup p xs _ np ep rp =>
    cases hb2 with
    | @tup p2 ys _ np2 ep2 rp2 =>
      refine ⟨p, p2, xs, ys, rfl, rfl, SqT.of ep, SqT.of ep2, fun z => ?_, by rw [rp.length, rp2.length]; exact Nat.le_trans hz (by decide), fun z => ?_, fun z l hl => ?_⟩
      · subst z; cases rp; exact hne rfl
      · subst z
        cases rp2
        rw [List.append_nil] at r
        exact q (.d (.tuple es)) _ H ms (Wk.refl L H) ⟨hA, ha⟩ r
      · exact q (.d (.tuple (es ++ fs))) _ _ ms (Wk.new hl) ⟨hA.new hl, .tup (hA.fresh hl) upd_same (RpA.to (hA.wk (Wk.new hl)) _ _ (rp.append rp2))⟩ r
/-! ### slices -/
def EO (K : PySem.W.Frag) (to : TO) (ds : List SD) (ms : List MD) (R : Option Int → List MD → Prop) : Prop :=
  ∀ (L M : List Addr) (σ : L2.St) (H : Hp), Sl K L M σ H ds → At L M ms H → ∀ Q : Option Int → Hp → Prop, (∀ o H' ms', Wk L H H' → At L M ms' H' → R o ms' → Q o H') → to σ H Q
theorem eo_none {RO : Option Int → List MD → Prop} (r : RO none ms) : EO K tNoPart ds ms RO := fun L M σ H hS hA Q q => q none H ms (Wk.refl L H) hA r
theorem eo_some {RO : Option Int → List MD → Prop} (h : E K te ds ms fun s ms1 => ∃ i, s = .d (.int i) ∧ RO (some i) ms1) : EO K (tPart te) ds ms RO := fun L M σ H hS hA Q q =>
  h L M σ H hS hA _ fun s v H1 ms1 w o ⟨i, e, r⟩ => by
    subst e
    obtain ⟨a, z⟩ := o
    cases z
    exact ⟨i, rfl, q (some i) H1 ms1 w a r⟩
def cutD (es : List PyData) (lo hi : Option Int) : List PyData := (es.drop (HT.sIx es.length 0 lo)).take (HT.sIx es.length es.length hi - HT.sIx es.length 0 lo)
theorem cut_of {M : List Addr} {H : Hp} {xs : List V} {es : List PyData} (r : RpA M H xs es) (lo hi : Option Int) : RpA M H (cutV xs lo hi) (cutD es lo hi) := by
  unfold cutV cutD
  rw [r.length]
  exact (r.drop _).take _
theorem e_slL {to th : TO} (h : E K te ds ms fun s ms1 => EO K to ds ms1 fun lo ms2 => EO K th ds ms2 fun hi ms3 => ∃ es, Sv ms3 (dd s) (.list es) ∧ R (.f (cutD es lo hi)) ms3) : E K (tSl (rSlL K) te to th) ds ms R := fun L M σ H hS hA Q q =>
  h L M σ H hS hA _ fun s v H1 ms1 w1 o1 h1 => h1 L M σ H1 (hS.mono hA w1) o1.at _ fun lo H2 ms2 w2 a2 h2 => h2 L M σ H2 ((hS.mono hA w1).mono o1.at w2) a2 _ fun hi H3 ms3 w3 a3 ⟨es, sv, r⟩ => by
    obtain ⟨p, xs, rfl, hq, hr⟩ := sv.lst a3 ((o1.sl.mono o1.at w2).mono a2 w3)
    have w := (w1.trans w2).trans w3
    exact ⟨p, xs, rfl, hq, fun l hl => q (.f (cutD es lo hi)) _ _ ms3 (w.trans (Wk.new hl)) (out_new a3 w hl (cut_of hr lo hi)) r⟩
/-- a part of a tuple that is not the whole -/
theorem e_slT {to th : TO} (h : E K te ds ms fun s ms1 => EO K to ds ms1 fun lo ms2 => EO K th ds ms2 fun hi ms3 => ∃ es, s = .d (.tuple es) ∧ ¬ (HT.sIx es.length 0 lo = 0 ∧ HT.sIx es.length es.length hi = es.length) ∧ R (.d (.tuple (cutD es lo hi))) ms3) : E K (tSl (rSlT K) te to th) ds ms R := fun L M σ H hS hA Q q =>
  h L M σ H hS hA _ fun s v H1 ms1 w1 o1 h1 => h1 L M σ H1 (hS.mono hA w1) o1.at _ fun lo H2 ms2 w2 a2 h2 => h2 L M σ H2 ((hS.mono hA w1).mono o1.at w2) a2 _ fun hi H3 ms3 w3 a3 ⟨es, e, hn, r⟩ => by
    subst e
    have z := (o1.sl.mono o1.at w2).mono a2 w3
    obtain ⟨p, xs, rfl, e1, hr⟩ := Sv.tup (ms := ms3) (.d _) z
    have w := (w1.trans w2).trans w3
    refine ⟨p, xs, rfl, SqT.of e1, by rw [hr.length]; exact hn, fun l hl => ?_⟩
    exact q (.d (.tuple (cutD es lo hi))) _ _ ms3 (w.trans (Wk.new hl)) ⟨a3.new hl, .tup (a3.fresh hl) upd_same (RpA.to (a3.wk (Wk.new hl)) _ _ (cut_of hr lo hi))⟩ r
end
/-! ### data that == takes -/
def Shp (n : Nat) (d : PyData) : Prop := d.canLay0 = true ∧ d.depth ≤ n
theorem Shp.ok {n : Nat} {d : PyData} (h : Shp n d) (hn : n ≤ 64) : SeqAt.shaped d = true := by
  unfold SeqAt.shaped
  rw [h.1, decide_eq_true (Nat.le_trans h.2 hn)]
  rfl
theorem Shp.all {n : Nat} : ∀ {es : List PyData}, (∀ e ∈ es, Shp n e) → PyData.canLayAll0 es = true ∧ PyData.depthAll es ≤ n
  | [], _ => ⟨rfl, by simp [PyData.depthAll]⟩
  | e :: r, h => by
    have h1 := h e (by simp)
    have h2 := Shp.all (es := r) fun x hx => h x (by simp [hx])
    exact ⟨by simp [PyData.canLayAll0, h1.1, h2.1], by simp only [PyData.depthAll]; exact Nat.max_le.mpr ⟨h1.2, h2.2⟩⟩
theorem Shp.tup {n : Nat} {es : List PyData} (h : ∀ e ∈ es, Shp n e) : Shp (n + 1) (.tuple es) := by
  have := Shp.all h
  exact ⟨by simp [PyData.canLay0, this.1], by simp only [PyData.depth]; have := this.2; omega⟩
theorem Shp.lst {n : Nat} {es : List PyData} (h : ∀ e ∈ es, Shp n e) : Shp (n + 1) (.list es) := by
  have := Shp.all h
  exact ⟨by simp [PyData.canLay0, this.1], by simp only [PyData.depth]; have := this.2; omega⟩
theorem Shp.int (i : Int) : Shp 0 (.int i) := ⟨rfl, Nat.le_refl _⟩
theorem Shp.bl (i : Bool) : Shp 0 (.bool i) := ⟨rfl, Nat.le_refl _⟩
theorem Shp.mono {m n : Nat} {d : PyData} (h : Shp m d) (l : m ≤ n) : Shp n d := ⟨h.1, Nat.le_trans h.2 l⟩
theorem Shp.ints (ns : List Int) : ∀ e ∈ ns.map PyData.int, Shp 0 e := fun e he => by
  obtain ⟨i, _, rfl⟩ := List.mem_map.mp he
  exact .int i
theorem Shp.pr (p : Int × Int) : Shp 1 (pr p) := Shp.tup fun e he => by
  simp at he
  rcases he with rfl | rfl <;> exact .int _
theorem eqv_self {n : Nat} {d : PyData} (h : Shp n d) : PyData.eqv d d = true := SeqAt.eqv_refl d h.1
theorem eqv_bl (a b : Bool) : PyData.eqv (.bool a) (.bool b) = decide (a = b) := by cases a <;> cases b <;> rfl
/-! ### fractions as numbers -/
def val (p : Int × Int) : Rat := (p.1 : Rat) / (p.2 : Rat)
theorem cast_ne {b : Int} (h : b ≠ 0) : (b : Rat) ≠ 0 := by exact_mod_cast h
theorem val_fr {i j : Int} (h : j ≠ 0) : val (fr i j) = (i : Rat) / (j : Rat) := by
  have hc := fr_cross (i := i) h
  have hp := fr_pos (i := i) h
  unfold val
  have h1 : ((fr i j).2 : Rat) ≠ 0 := cast_ne (by omega)
  have h2 : (j : Rat) ≠ 0 := cast_ne h
  have h3 : ((fr i j).1 : Rat) * (j : Rat) = (i : Rat) * ((fr i j).2 : Rat) := by
    rw [← Rat.intCast_mul, ← Rat.intCast_mul, hc]
  grind
structure Lo (p : Int × Int) : Prop where
  pos : 0 < p.2
  low : Int.gcd p.1 p.2 = 1
theorem Lo.fr {i j : Int} (h : j ≠ 0) : Lo (fr i j) := ⟨fr_pos h, fr_low h⟩
theorem Lo.eq {p q : Int × Int} (a : Lo p) (b : Lo q) (h : val p = val q) : p = q := by
  unfold val at h
  have h1 : (p.2 : Rat) ≠ 0 := cast_ne (by have := a.pos; omega)
  have h2 : (q.2 : Rat) ≠ 0 := cast_ne (by have := b.pos; omega)
  have h3 : (p.1 : Rat) * (q.2 : Rat) = (q.1 : Rat) * (p.2 : Rat) := by grind
  rw [← Rat.intCast_mul, ← Rat.intCast_mul] at h3
  have h4 : p.1 * q.2 = q.1 * p.2 := by exact_mod_cast h3
  obtain ⟨e1, e2⟩ := low_uniq a.pos b.pos a.low b.low h4
  exact Prod.ext e1 e2
def pl (t f : Int × Int) : Int × Int := fr (t.1 * f.2 + f.1 * t.2) (t.2 * f.2)
theorem pl_lo {t f : Int × Int} (a : t.2 ≠ 0) (b : f.2 ≠ 0) : Lo (pl t f) := Lo.fr (Int.mul_ne_zero a b)
theorem pl_val {t f : Int × Int} (a : t.2 ≠ 0) (b : f.2 ≠ 0) : val (pl t f) = val t + val f := by
  unfold pl
  rw [val_fr (Int.mul_ne_zero a b)]
  unfold val
  have h1 : (t.2 : Rat) ≠ 0 := cast_ne a
  have h2 : (f.2 : Rat) ≠ 0 := cast_ne b
  rw [Rat.intCast_add, Rat.intCast_mul, Rat.intCast_mul, Rat.intCast_mul]
  grind
def sumF (fs : List (Int × Int)) : Int × Int := fs.foldl pl (0, 1)
def sumV (fs : List (Int × Int)) : Rat := (fs.map val).sum
structure Wt (p : Int × Int) : Prop where
  lo : Lo p
  b1 : Bd 32 p.1
  b2 : Bd 10 p.2
theorem foldl_snoc (fs : List (Int × Int)) (f : Int × Int) : sumF (fs ++ [f]) = pl (sumF fs) f := by
  unfold sumF
  rw [List.foldl_append]
  rfl
theorem lo01 : Lo (0, 1) := ⟨by decide, by decide⟩
theorem sumF_lo : ∀ (fs : List (Int × Int)), (∀ f ∈ fs, f.2 ≠ 0) → Lo (sumF fs) ∧ val (sumF fs) = sumV fs := by
  intro fs
  have gen : ∀ (fs : List (Int × Int)) (t : Int × Int), Lo t → (∀ f ∈ fs, f.2 ≠ 0) → Lo (fs.foldl pl t) ∧ val (fs.foldl pl t) = val t + sumV fs := by
    intro fs
    induction fs with
    | nil =>
      intro t ht _
      refine ⟨ht, ?_⟩
      show val t = val t + 0
      grind
    | cons f r ih =>
      intro t ht h
      have hf := h f (by simp)
      have ht2 : t.2 ≠ 0 := by have := ht.pos; omega
      have := ih (pl t f) (pl_lo ht2 hf) fun x hx => h x (by simp [hx])
      refine ⟨this.1, ?_⟩
      show val (r.foldl pl (pl t f)) = _
      rw [this.2, pl_val ht2 hf]
      show _ = val t + (val f + sumV r)
      grind
  intro h
  have := gen fs (0, 1) lo01 h
  refine ⟨this.1, ?_⟩
  show val (fs.foldl pl (0, 1)) = _
  rw [this.2]
  have : val (0, 1) = 0 := by
    show ((0 : Int) : Rat) / ((1 : Int) : Rat) = 0
    grind
  rw [this]
  grind
theorem fold_bd : ∀ (fs : List (Int × Int)) (t : Int × Int) (a b : Nat), b ≤ a → t.2 ≠ 0 → Bd a t.1 → Bd b t.2 → (∀ f ∈ fs, f.2 ≠ 0 ∧ Bd 32 f.1 ∧ Bd 10 f.2) → Bd (a + 44 * fs.length) (fs.foldl pl t).1 ∧ Bd (b + 10 * fs.length) (fs.foldl pl t).2 := by
  intro fs
  induction fs with
  | nil => intro t a b _ _ h1 h2 _; exact ⟨h1, h2⟩
  | cons f r ih =>
    intro t a b hab h0 h1 h2 h
    obtain ⟨f0, f1, f2⟩ := h f (by simp)
    have hne := Int.mul_ne_zero h0 f0
    have x1 : Bd (a + 43) (t.1 * f.2) := (h1.mul f2).mono (by omega)
    have x2 : Bd (a + 43) (f.1 * t.2) := (f1.mul h2).mono (by omega)
    have b1 : Bd (a + 44) (t.1 * f.2 + f.1 * t.2) := x1.add x2
    have b2 : Bd (b + 10) (t.2 * f.2) := h2.mul f2
    have c1 : Bd (a + 44) (pl t f).1 := b1.le (fr_le hne).1
    have c2 : Bd (b + 10) (pl t f).2 := b2.le (fr_le hne).2
    have p2 := fr_pos (i := t.1 * f.2 + f.1 * t.2) hne
    have := ih (pl t f) (a + 44) (b + 10) (by omega) (by show (fr _ _).2 ≠ 0; omega) c1 c2 fun x hx => h x (by simp [hx])
    have e1 : a + 44 + 44 * r.length = a + 44 * (f :: r).length := by simp; omega
    have e2 : b + 10 + 10 * r.length = b + 10 * (f :: r).length := by simp; omega
    rw [e1, e2] at this
    exact this
theorem fold_ne : ∀ (fs : List (Int × Int)) (t : Int × Int), t.2 ≠ 0 → (∀ f ∈ fs, f.2 ≠ 0) → (fs.foldl pl t).2 ≠ 0 := by
  intro fs
  induction fs with
  | nil => intro t h _; exact h
  | cons f r ih =>
    intro t h0 h
    have hf := h f (by simp)
    exact ih (pl t f) (by have := (pl_lo h0 hf).pos; omega) fun x hx => h x (by simp [hx])
theorem pl_zero {p : Int × Int} (h : Lo p) : pl (0, 1) p = p := by
  have hp : p.2 ≠ 0 := by have := h.pos; omega
  refine Lo.eq (pl_lo (by decide) hp) h ?_
  rw [pl_val (by decide) hp]
  have : val (0, 1) = 0 := by
    show ((0 : Int) : Rat) / ((1 : Int) : Rat) = 0
    grind
  rw [this]
  grind
theorem take_snoc {α : Type} {l : List α} {i : Nat} {x : α} (h : l[i]? = some x) : l.take (i + 1) = l.take i ++ [x] := by
  rw [List.take_add_one, h]
  rfl
theorem wt_ok {f : Int × Int} (h : Wt f) : f.2 ≠ 0 ∧ Bd 32 f.1 ∧ Bd 10 f.2 := ⟨by have := h.lo.pos; omega, h.b1, h.b2⟩
/-! ### webs -/
abbrev Tie := Nat × Nat × (Int × Int)
abbrev encT (t : Tie) : PyData := .tuple [.int t.1, .int t.2.1, pr t.2.2]
abbrev encW (m : Nat) (ts : List Tie) : PyData := .tuple [.int m, .tuple (ts.map encT)]
structure TieOk (m : Nat) (t : Tie) : Prop where
  lt : t.1 < t.2.1
  lm : t.2.1 < m
  w : Wt t.2.2
structure WebOk (m : Nat) (ts : List Tie) : Prop where
  all : ∀ t ∈ ts, TieOk m t
  len : ts.length ≤ 170
  m1 : 1 ≤ m
  m60 : m ≤ 60
abbrev encS (sd : List Int) : PyData := .tuple (sd.map .int)
abbrev encN (ns : List Nat) : List PyData := ns.map fun (n : Nat) => PyData.int (n : Int)
def tie0 : Tie := (0, 0, (0, 1))
def cutB (sd : List Int) (t : Tie) : Bool := !decide (sd.getD t.1 0 = sd.getD t.2.1 0)
def gainB (t : Tie) : Bool := decide (0 < t.2.2.1)
def lostB (sd : List Int) (t : Tie) : Bool := !decide (cutB sd t = gainB t)
def nums (p : Tie → Bool) (ts : List Tie) (n : Nat) : List Nat := (List.range n).filter fun i => p (ts.getD i tie0)
theorem nums_yes {p : Tie → Bool} {ts : List Tie} {n : Nat} (h : p (ts.getD n tie0) = true) : nums p ts (n + 1) = nums p ts n ++ [n] := by
  unfold nums
  rw [List.range_succ, List.filter_append, List.filter_cons, if_pos h]
  rfl
theorem nums_no {p : Tie → Bool} {ts : List Tie} {n : Nat} (h : p (ts.getD n tie0) = false) : nums p ts (n + 1) = nums p ts n := by
  unfold nums
  rw [List.range_succ, List.filter_append, List.filter_cons, if_neg (by rw [h]; decide)]
  show _ ++ [] = _
  rw [List.append_nil]
theorem nums_map (p : Tie → Bool) (ts : List Tie) : ∀ n, n ≤ ts.length → (nums p ts n).map (fun i => ts.getD i tie0) = (ts.take n).filter p
  | 0, _ => rfl
  | n + 1, h => by
    have ih := nums_map p ts n (by omega)
    have hn : n < ts.length := by omega
    have e : ts.getD n tie0 = ts[n] := by simp [List.getD, hn]
    rw [List.take_add_one, List.getElem?_eq_getElem hn, List.filter_append]
    cases q : p (ts.getD n tie0) with
    | true =>
      rw [nums_yes q, List.map_append, ih]
      rw [e] at q
      have e' : ts[n]?.getD tie0 = ts[n] := by simp [hn]
      simp [q, e']
    | false =>
      rw [nums_no q, ih]
      rw [e] at q
      simp [q]
theorem nums_all (p : Tie → Bool) (ts : List Tie) : (nums p ts ts.length).map (fun i => ts.getD i tie0) = ts.filter p := by
  rw [nums_map p ts ts.length (Nat.le_refl _), List.take_length]
theorem nums_lt {p : Tie → Bool} {ts : List Tie} {n i : Nat} (h : i ∈ nums p ts n) : i < n := by
  unfold nums at h
  have := (List.mem_filter.mp h).1
  simpa using this
theorem nums_len (p : Tie → Bool) (ts : List Tie) (n : Nat) : (nums p ts n).length ≤ n := by
  unfold nums
  have := List.length_filter_le (fun i => p (ts.getD i tie0)) (List.range n)
  simpa using this
theorem get1 (ms : List MD) (A : MD) : (ms ++ [A])[ms.length]? = some A := by simp
theorem set1 (ms : List MD) (A X : MD) : (ms ++ [A]).set ms.length X = ms ++ [X] := by
  rw [List.set_append_right _ _ (Nat.le_refl _), Nat.sub_self]
  rfl
theorem get2a (ms : List MD) (A B : MD) : (ms ++ [A] ++ [B])[ms.length]? = some A := by
  rw [List.getElem?_append_left (by simp)]
  exact get1 ms A
theorem get2b (ms : List MD) (A B : MD) : (ms ++ [A] ++ [B])[ms.length + 1]? = some B := by
  have := get1 (ms ++ [A]) B
  rw [List.length_append] at this
  exact this
theorem set2a (ms : List MD) (A B X : MD) : (ms ++ [A] ++ [B]).set ms.length X = ms ++ [X] ++ [B] := by
  rw [List.set_append_left _ _ (by simp), set1]
theorem set2b (ms : List MD) (A B X : MD) : (ms ++ [A] ++ [B]).set (ms.length + 1) X = ms ++ [A] ++ [X] := by
  have := set1 (ms ++ [A]) B X
  rw [List.length_append] at this
  exact this
theorem tie_at {ts : List Tie} {i : Nat} (h : i < ts.length) : (ts.map encT)[i]? = some (encT (ts.getD i tie0)) := by
  rw [List.getElem?_map, List.getElem?_eq_getElem h]
  simp [List.getD, h]
theorem getD_mem {ts : List Tie} {i : Nat} (h : i < ts.length) : ts.getD i tie0 ∈ ts := by
  simp [List.getD, h]
theorem side_at {sd : List Int} {i : Nat} (h : i < sd.length) : (sd.map PyData.int)[i]? = some (.int (sd.getD i 0)) := by
  rw [List.getElem?_map, List.getElem?_eq_getElem h]
  simp [List.getD, h]
section
variable {K : PySem.W.Frag} {te ta tb tc tl : TE} {tt : TT} {tA : TA} {ds : List SD} {ms : List MD} {R : RS} {t u : TS} {P : Po}
/-- a statement, then what holds behind it, then the rest -/
theorem s_mid (Mid : List SD → List MD → Prop) (h1 : S K t ds ms { P with nx := Mid }) (h2 : ∀ ds1 ms1, Mid ds1 ms1 → S K u ds1 ms1 P) : S K (tSeq t u) ds ms P := fun L M σ H hS hA D n r b c =>
  h1 L M σ H hS hA { D with nx := u D } (fun σ1 H1 ds1 ms1 w s1 a1 h => h2 ds1 ms1 h L M σ1 H1 s1 a1 D (n.on w) (r.on a1 w) (b.on w) (c.on w)) r b c
/-- a comprehension over a list of ints that may change, but doesn't meanwhile -/
theorem e_lcM {g : TG} {js vs : List Nat} (hj : ∀ j ∈ js, j ∈ vs) (h : E K tl ds ms fun s ms0 => ∃ (k : Nat) (ns : List Int), s = .m k ∧ ns.length ≤ 10000 ∧ ∃ Pv : Nat → List PyData → List MD → Prop, Pv 0 [] ms0 ∧
      (∀ i acc ms1, Pv i acc ms1 → ms1[k]? = some (.l (ns.map .int))) ∧
      (∀ i e acc ms1, ns[i]? = some e → Pv i acc ms1 → Lt K g js tt te vs ds (.d (.int e)) ms1 acc (Pv (i + 1))) ∧ ∀ acc ms1, Pv ns.length acc ms1 → R (.f acc) ms1) :
    E K (tLc (iList K tl) g tt te vs) ds ms R := fun L M σ H hS hA Q q =>
  h L M σ H hS hA _ fun s v H1 ms0 w o ⟨k, ns, e, hz, Pv, h0, hk, hs, hd⟩ => by
    subst e
    obtain ⟨a1, p, rfl, hp⟩ := o
    have sq : ∀ {M' : List Addr} {ms' : List MD} {H' : Hp}, At L M' ms' H' → ms'[k]? = some (.l (ns.map .int)) → SqL K H' p (ns.map V.int) := fun {M' ms' H'} a' e' => by
      obtain ⟨xs, e1, r1⟩ := a'.get hp e'
      rw [RpA.ints_inv r1] at e1
      exact SqL.of e1
    refine ⟨p, rfl, ⟨_, sq a1 (hk 0 [] ms0 h0)⟩, fun D hD => ?_⟩
    have hDL := a1.freshL hD
    refine lc_list (xs := ns.map V.int) (fun i H' => ∃ acc ms', Cs L M H1 D i acc ms' H' ∧ Pv i acc ms') ⟨[], ms0, .start a1 hD, h0⟩ (fun i H' _ ⟨_, _, c, pv⟩ => sq c.a (hk _ _ _ pv)) (fun i x H' hi ⟨acc, ms', c, pv⟩ => ?_) (fun H' ⟨acc, ms', c, pv⟩ => ?_)
    · rw [List.getElem?_map] at hi
      cases e : ns[i]? with
      | none => rw [e] at hi; cases hi
      | some n =>
        rw [e] at hi
        cases hi
        have hl := (List.getElem?_eq_some_iff.mp e).1
        exact lc_turn (x := .d (.int n)) (v := .int n) (Nn := Pv) hj (by omega) (hS.mono hA w) a1 hD c (.int n) (hs i n acc ms' e pv)
    · rw [List.length_map] at pv
      exact q (.f acc) _ H' ms' (w.trans c.w) ⟨D, rfl, none_back a1 w (a1.fresh hD) hD, a1.fresh hD, c.done a1.sub hDL, a1.sub⟩ (hd acc ms' pv)
end
end Hc

namespace Hc
open PySem PySem.Spec PyProof.Rows L2
/-! ### errors -/
abbrev PhX := List SD → List MD → RS → (List MD → Prop) → Prop
/-- a def that hands back, or raises the class at C -/
def SpX (K : PySem.W.Frag) (C : Addr) (Φ : PhX) : Sp := fun vs H Q X => ∃ L M ms as R Y, At L M ms H ∧ SlsOk K L M H as vs ∧ Φ as ms R Y ∧ (∀ s v H' ms', Wk L H H' → Out K L M H H' ms' v s → R s ms' → Q v H') ∧ ∀ H' ms', Wk L H H' → At L M ms' H' → Y ms' → X (.ref C) none H'
def Ex (L M : List Addr) (H : Hp) (C : Addr) (Y : List MD → Prop) (X : XK) : Prop := ∀ H' ms', Wk L H H' → At L M ms' H' → Y ms' → X (.ref C) none H'
def SX (K : PySem.W.Frag) (C : Addr) (t : XK → TS) (ds : List SD) (ms : List MD) (P : Po) (Y : List MD → Prop) : Prop :=
  ∀ (L M : List Addr) (σ : L2.St) (H : Hp), Sl K L M σ H ds → At L M ms H → ∀ (D : Ends) (X : XK), Nx K L M H P.nx D.nx → Rx K L M H P.rt D.rt → Nx K L M H P.bk D.bk → Nx K L M H P.ct D.ct → Ex L M H C Y X → t X D σ H
section
variable {K : PySem.W.Frag} {C : Addr} {te ta tb tc tl : TE} {tt : TT} {tA : TA} {ds : List SD} {ms : List MD} {R : RS} {P : Po} {Y : List MD → Prop}
theorem Ex.on {L M : List Addr} {H H1 : Hp} {X : XK} (w : Wk L H H1) (h : Ex L M H C Y X) : Ex L M H1 C Y X := fun H' ms' w2 => h H' ms' (w.trans w2)
theorem sx_of {t : TS} (h : S K t ds ms P) : SX K C (fun _ => t) ds ms P Y := fun L M σ H hS hA D X n r b c _ => h L M σ H hS hA D n r b c
theorem sx_seq {t u : XK → TS} (h : SX K C t ds ms { P with nx := fun ds1 ms1 => SX K C u ds1 ms1 P Y } Y) : SX K C (fun X => tSeq (t X) (u X)) ds ms P Y := fun L M σ H hS hA D X n r b c x =>
  h L M σ H hS hA { D with nx := u X D } X (fun σ1 H1 ds1 ms1 w s1 a1 h1 => h1 L M σ1 H1 s1 a1 D X (n.on w) (r.on a1 w) (b.on w) (c.on w) (x.on w)) r b c x
theorem sx_if {t u : XK → TS} (h : ET K tt ds ms fun b ms1 => (b = true → SX K C t ds ms1 P Y) ∧ (b = false → SX K C u ds ms1 P Y)) : SX K C (fun X => tIfS tt (t X) (u X)) ds ms P Y := fun L M σ H hS hA D X n r b c x =>
  h L M σ H hS hA _ fun k H1 ms1 w a ⟨h1, h2⟩ => by
    cases k with
    | true => exact h1 rfl L M σ H1 (hS.mono hA w) a D X (n.on w) (r.on a w) (b.on w) (c.on w) (x.on w)
    | false => exact h2 rfl L M σ H1 (hS.mono hA w) a D X (n.on w) (r.on a w) (b.on w) (c.on w) (x.on w)
/-- raise -/
def tRs (C : Addr) (X : XK) : TS := fun _ σ H => (fun (cls : Value) (d : Option Addr) (H' : Hp) => (fun (c : Value) (d : Option Addr) (_ : L2.St) (H : Hp) => X c d H) cls d σ H') (.ref C) none H
theorem sx_raise (h : Y ms) : SX K C (tRs C) ds ms P Y := fun L M σ H hS hA D X n r b c x => x H ms (Wk.refl L H) hA h
theorem kit_up {D : Addr} (hc : (PySem.W.clsIn K D).isSome = true) (ht : PySem.W.typeIn K (.ref D) = some (.type "type")) (hs : PySem.W.subIn K (.ref C) (.ref D) = some true) : PySem.W.kitOne K (.ref C) (.ref D) = some true := by
  unfold PySem.W.kitOne
  by_cases e : ((Value.ref C == Value.ref D) = true)
  · rw [if_pos e]
  · rw [if_neg e]
    show (if _ then _ else _) = _
    rw [hc, ht, hs]
    rfl
theorem kit_upT {T : String} (hm : PySem.W.kitMeta T = true) (hs : PySem.W.subIn K (.ref C) (.type T) = some true) : PySem.W.kitOne K (.ref C) (.type T) = some true := by
  unfold PySem.W.kitOne
  rw [if_neg (by simp)]
  show (if _ then _ else _) = _
  rw [if_pos hm, hs]
/-- a class of one's own over ValueError -/
structure Er (K : PySem.W.Frag) (mg : Str → Option Value) (x : Str) (C : Addr) : Prop where
  g : mg x = some (.ref C)
  x : PySem.W.excIn K C [.type "ValueError", .type "Exception", .type "BaseException", .type "object"] "ValueError.__new__" = true
  k : PySem.W.keepIn K (.ref C) = true
  b : PySem.W.subIn K (.ref C) (.type "BaseException") = some true
  t : PySem.W.typeIn K (.ref C) = some (.type "type")
  s : PySem.W.subIn K (.ref C) (.ref C) = some true
  e : ExcC K C
theorem ps_raiseD {X : Cx} {x m : Str} {j : Nat} {p p2 pos pos' : Pos} {E₁ : Value → Shared → Prop} {Y : XK} (e : Er X.K X.mg x C) (hc : X.calm = true) (hs : X.stack = X.env :: X.outer) (hf : X.env.frame = some X.env.locals) (hex : X.ex = [])
    (hx : X.xe = fun e s' => wpAny (model X.prog X.w) X.A (leaving X.env e) (fun _ s'' => L2.CX X.prog X.w X.outer X.H_0 X.s_0 Y e s'') E₁ s') (hg : Gl X x) (hdb : (x == ("__debug__" : Str)) = false := by decide) :
    PS X (.Raise (some (.Call (.Name x p) [.Constant (.str m) j p2] [] pos)) none pos') (tRs C Y) :=
  ps_raise hc (takes_of hs hf hex hx) (pmk_own PySem.F.excBase_ValueError e.x e.g e.k (raises_own e.b e.t) hg hdb)
/-- a def that may raise, by name -/
structure KnX (Pg : Program) (w : World) (K : PySem.W.Frag) (mg : Str → Option Value) (base : Heap) (x : Str) (lv : Nat) (ps : List Str) (C : Addr) (Φ : PhX) : Prop where
  ex : ∃ f fd, FnOk Pg w K mg base (L2.CX Pg w) lv f fd ps (SpX K C Φ) ∧ mg x = some (.ref f) ∧ PySem.W.keepIn K (.ref f) = true ∧ Binds K fd ps []
theorem pe_callX {X : Cx} {x : Str} {lv : Nat} {ps : List Str} {Φ : PhX} {W : WX} {e : Expr} {es : List Expr} {t : TA} {p pos : Pos} (h : KnX X.prog X.w X.K X.mg X.base x lv ps C Φ) (hr : Room lv X.A) (hg : Gl X x) (tk : Takes X W) (ha : PA X (e :: es) t)
    (hdb : (x == ("__debug__" : Str)) = false := by decide) (he : starEach (e :: es) X.env = (false, eval e X.env) :: starEach es X.env := by rfl) (hpl : (backTo pos (starEach es X.env)).any (·.1) = false := by rfl) :
    PE X (.Call (.Name x p) (e :: es) [] pos) (tCallS (SpX X.K C Φ) (WE W) t) := by
  obtain ⟨f, fd, G, m, k, b⟩ := h.ex
  exact pe_callS G hr hg m k b (fun σ => passAt tk σ) ha hdb he hpl
/-- in a place where it raises nothing -/
theorem pe_callX0 {X : Cx} {x : Str} {lv : Nat} {ps : List Str} {Φ : PhX} {e : Expr} {es : List Expr} {t : TA} {p pos : Pos} (h : KnX X.prog X.w X.K X.mg X.base x lv ps C Φ) (hr : Room lv X.A) (hg : Gl X x) (ha : PA X (e :: es) t)
    (hdb : (x == ("__debug__" : Str)) = false := by decide) (he : starEach (e :: es) X.env = (false, eval e X.env) :: starEach es X.env := by rfl) (hpl : (backTo pos (starEach es X.env)).any (·.1) = false := by rfl) :
    PE X (.Call (.Name x p) (e :: es) [] pos) (tCall (SpX X.K C Φ) [] E0 t) := by
  obtain ⟨f, fd, G, m, k, b⟩ := h.ex
  exact pe_call G hr hg m k b .nil passL ha hdb he hpl
theorem e_callX0 {Φ : PhX} (h : EA K tA ds ms fun as ms1 => Φ as ms1 R fun _ => False) : E K (tCall (SpX K C Φ) [] E0 tA) ds ms R := fun L M σ H hS hA Q q =>
  h L M σ H hS hA _ fun as vs H1 ms1 w1 a1 o1 h1 => by
    rw [List.append_nil]
    exact ⟨L, M, ms1, as, R, fun _ => False, a1, o1, h1, fun s v H3 ms3 w3 o3 r3 => q s v H3 ms3 (w1.trans w3) (o3.back a1 w1) r3, fun _ _ _ _ z => z.elim⟩
theorem okX_of {Pg : Program} {w : World} {mg : Str → Option Value} {base : Heap} {x qual : Str} {st : Stmt} {f : Addr} {fd : FuncData} {N ps : List Str} {k : Nat} {Φ : PhX} (F : Fun K x qual st f fd) (Sc : FnScope N ps (defScope st)) (hl : ∀ as ms R Y, Φ as ms R Y → as.length = ps.length) (hpn : ps.length ≤ N.length)
    (t : XK → TS) (hbody : ∀ (cdv : Value) (A : Around) (outer : List Env) (s : Shared) (H : Hp) (E : XK), Room k (A.deeper (envOfC qual (defScope st) s.heap.objs.size f cdv)) → PSs (cxOf (L2.CX Pg w) Pg w K mg base N qual (defScope st) f cdv A outer s H E) (defBody st) (t E))
    (h2 : ∀ as ms R Y, Φ as ms R Y → SX K C t (as ++ List.replicate (N.length - as.length) .u) ms (fin R) Y) : FnOk Pg w K mg base (L2.CX Pg w) (k + 1) f fd ps (SpX K C Φ) := by
  refine F.okX Sc (fun vs H Q E h => ?_) (fun cdv A outer s H vs Q E hr h => ⟨t E, hbody cdv A outer s H E hr, ?_⟩)
  · obtain ⟨L, M, ms, as, R, Y, hA, ho, hp, q⟩ := h
    rw [← ho.len]
    exact hl as ms R Y hp
  · obtain ⟨L, M, ms, as, R, Y, hA, ho, hp, q, x⟩ := h
    exact h2 as ms R Y hp L M _ H (Sl.start ho (by rw [hl as ms R Y hp]; exact hpn)) hA _ E (fun σ' H' ds' ms' w s a r => q (.d .none) .non H' ms' w ⟨a, .non⟩ r) (fun s v H' ms' w o r => q s v H' ms' w o r) (fun _ _ _ _ _ _ _ z => z.elim) (fun _ _ _ _ _ _ _ z => z.elim) x
/-! ### try .. except X as n -/
/-- a suite that is for the class at C alone -/
def tSu (C : Addr) (cls : Value) (d : Option Addr) (t : TS) : TS := fun D σ H => (cls = .ref C ∧ d = none) ∧ t D σ H
theorem pss_su {X : Cx} {cls : Value} {d : Option Addr} {st : List Stmt} {t : TS} (h : cls = .ref C → d = none → PSs X st t) : PSs X st (tSu C cls d t) := ⟨fun pins s σ H D I q => by
  obtain ⟨⟨e1, e2⟩, q⟩ := q
  exact (h e1 e2).run pins s σ H D I q⟩
/-- the whole: a call in the try, dropped; ts: the suite by the error's own address -/
def tTry (K : PySem.W.Frag) (C : Addr) (i : Nat) (te : WX → TE) (ts : Addr → TS) : TS := fun D σ H => tDrop (te (wAs K (.ref C) i (fun a cls d => tSu C cls d (ts a)) (fun _ _ _ _ => False) D)) D σ H
theorem s_try {i : Nat} {Φ : PhX} {ts : Addr → TS} (hm : PySem.W.exmOne K (.ref C) (.ref C) = some true) (h : EA K tA ds ms fun as ms1 => Φ as ms1 (fun _ ms2 => P.nx ds ms2) fun ms2 => ∀ a, S K (ts a) (ds.set i (.v (.ref a))) ms2 { nx := fun ds' ms' => P.nx (ds'.set i .u) ms', rt := P.rt, bk := fun ds' ms' => P.bk (ds'.set i .u) ms', ct := fun ds' ms' => P.ct (ds'.set i .u) ms' }) :
    S K (tTry K C i (fun W => tCallS (SpX K C Φ) (WE W) tA) ts) ds ms P := fun L M σ H hS hA D n r b c =>
  h L M σ H hS hA _ fun as vs H1 ms1 w1 a1 o1 h1 =>
    ⟨L, M, ms1, as, _, _, a1, o1, h1, fun s v H2 ms2 w2 o2 r2 => n σ H2 ds ms2 (w1.trans w2) (hS.mono hA (w1.trans w2)) o2.at r2, fun H2 ms2 w2 a2 y => ⟨true, hm, fun _ a ha => ⟨⟨rfl, rfl⟩, by
      have w := w1.trans w2
      refine y a L M _ H2 ((hS.mono hA w).set i (show SlOk K L M H2 (.v (.ref a)) (.ref a) from rfl)) a2 _ ?_ (r.on a2 w) ?_ ?_
      · intro σ3 H3 ds3 ms3 w3 s3 a3 q
        exact n _ H3 _ ms3 (w.trans w3) (s3.forget i none) a3 q
      · intro σ3 H3 ds3 ms3 w3 s3 a3 q
        exact b _ H3 _ ms3 (w.trans w3) (s3.forget i none) a3 q
      · intro σ3 H3 ds3 ms3 w3 s3 a3 q
        exact c _ H3 _ ms3 (w.trans w3) (s3.forget i none) a3 q⟩, nofun⟩⟩
theorem e_isE {i : Nat} {a : Addr} {c : V} {cv : Value} {k : Bool} (hi : ds[i]? = some (.v (.ref a))) (hc : ∀ u, RelV c u → u = cv) (hk : PySem.W.kitOne K (.ref C) cv = some k) (r : R (.d (.bool k)) ms) : E K (tCB (rIsE K C a) (tCons (tVar i) (tCons (tC c) tNil))) ds ms R := fun L M σ H hS hA Q q => by
  obtain ⟨v, e, o⟩ := hS.get hi (fun z => nomatch z)
  cases o
  exact ⟨.ref a, e, c, cv, k, rfl, hc, hk, q (.d (.bool k)) _ H ms (Wk.refl L H) ⟨hA, .bl k⟩ r⟩
end
def phx2 (f : SD → SD → List MD → RS → (List MD → Prop) → Prop) : PhX := fun as ms R Y => ∃ a b, as = [a, b] ∧ f a b ms R Y
theorem phx2_len {f : SD → SD → List MD → RS → (List MD → Prop) → Prop} : ∀ as ms R Y, phx2 f as ms R Y → as.length = 2 := fun _ _ _ _ ⟨_, _, e, _⟩ => by rw [e]; rfl
end Hc

namespace Hc
open PySem PySem.Spec PyProof.Rows L2
/-! ### what is a list or a tuple, in a slot, walked -/
def iRow (K : PySem.W.Frag) (i : Nat) : TI := fun σ H R => iList K (tVar i) σ H R ∨ iTup K (tVar i) σ H R
theorem pi_row {X : Cx} {tg l : Expr} {i : Nat} (h : PE X l (tVar i)) : PI X tg l (iRow X.K i) := ⟨fun pins s σ H R I q => by
  rcases q with q | q
  · exact (pi_list h).run pins s σ H R I q
  · exact (pi_tup h).run pins s σ H R I q⟩
abbrev rJoinK (K : PySem.W.Frag) : V → List V → Hp → VK → Prop := fun x xs H Q => ∃ a p, ∃ ys : List Str, x = .str a ∧ xs = [.ref p] ∧ (SqL K H p (ys.map V.str) ∨ SqT K H p (ys.map V.str)) ∧ (ys.map (·.length)).sum + ys.length * a.length ≤ 16777216 ∧ Q (.str (Txt.join a ys)) H
section
variable {K : PySem.W.Frag} {te ta tb tc tl : TE} {tt : TT} {tA : TA} {ds : List SD} {ms : List MD} {R : RS} {P : Po}
theorem e_lcRowL {i : Nat} {g : TG} {vs : List Nat} (h : E K (tLc (iList K (tVar i)) g tt te vs) ds ms R) : E K (tLc (iRow K i) g tt te vs) ds ms R := fun L M σ H hS hA Q q => .inl (h L M σ H hS hA Q q)
theorem e_lcRowT {i : Nat} {g : TG} {vs : List Nat} (h : E K (tLc (iTup K (tVar i)) g tt te vs) ds ms R) : E K (tLc (iRow K i) g tt te vs) ds ms R := fun L M σ H hS hA Q q => .inr (h L M σ H hS hA Q q)
/-- both at once: the source a row es -/
theorem e_lcRow {i : Nat} {g : TG} {js vs : List Nat} {x : PyData} {es : List PyData} (hi : ds[i]? = some (.d x)) (hx : x = .list es ∨ x = .tuple es) (hj : ∀ j ∈ js, j ∈ vs) (hz : es.length ≤ 10000) (Pv : Nat → List PyData → List MD → Prop) (h0 : Pv 0 [] ms)
      (hs : ∀ i e acc ms1, es[i]? = some e → Pv i acc ms1 → Lt K g js tt te vs ds (.d e) ms1 acc (Pv (i + 1))) (hd : ∀ acc ms1, Pv es.length acc ms1 → R (.f acc) ms1) : E K (tLc (iRow K i) g tt te vs) ds ms R := by
  rcases hx with rfl | rfl
  · exact e_lcRowL (e_lcL hj (e_var hi ⟨es, .d es, hz, Pv, h0, hs, hd⟩))
  · exact e_lcRowT (e_lcT hj (e_var hi ⟨es, rfl, hz, Pv, h0, hs, hd⟩))
theorem strs_inv {M : List Addr} {H : Hp} : ∀ {zs : List Str} {xs : List V}, RpA M H xs (zs.map PyData.str) → xs = zs.map V.str
  | [], _, h => by cases h; rfl
  | n :: r, _, h => by
    cases h with
    | cons a b => cases a; rw [strs_inv b]; rfl
theorem e_join (h : E K ta ds ms fun s ms1 => ∃ a, s = .d (.str a) ∧ E K te ds ms1 fun s2 ms2 => ∃ zs : List Str, Sv ms2 (dd s2) (.list (zs.map .str)) ∧ (zs.map (·.length)).sum + zs.length * a.length ≤ 16777216 ∧ R (.d (.str (Txt.join a zs))) ms2) : E K (tM1 (rJoinK K) ta te) ds ms R := fun L M σ H hS hA Q q =>
  h L M σ H hS hA _ fun s v H1 ms1 w1 o1 ⟨a, e, h1⟩ => by
    subst e
    obtain ⟨a1, z⟩ := o1
    cases z
    refine ⟨⟨a, rfl⟩, ?_⟩
    refine h1 L M σ H1 (hS.mono hA w1) a1 _ fun s2 v2 H2 ms2 w2 o2 ⟨zs, sv, hz, r⟩ => ?_
    obtain ⟨p, xs, rfl, hq, hr⟩ := sv.lst o2.at o2.sl
    rw [strs_inv hr] at hq
    exact ⟨a, p, zs, rfl, rfl, .inl hq, hz, q (.d (.str _)) _ H2 ms2 (w1.trans w2) ⟨o2.at, .str _⟩ r⟩
end
end Hc

namespace Hc
open PySem PySem.Spec PyProof.Rows L2
/-! ### o[i] op= e -/
def rIxN (K : PySem.W.Frag) : V → V → Hp → VK → Prop := fun o i H Q => ∃ (p : Addr) (xs : List V) (j : Nat) (v : V), o = .ref p ∧ i = .int j ∧ SqL K H p xs ∧ xs[j]? = some v ∧ Q v H
theorem get_listN {X : Cx} : PGet X (rIxN X.K) := by
  intro pins s σ H o i ov iv Q I ro ri h
  obtain ⟨p, xs, j, v, rfl, rfl, hq, hv, q⟩ := h
  cases ro
  obtain ⟨t, rfl⟩ := ri
  obtain ⟨its, r, pl, hz⟩ := I.list hq
  obtain ⟨w, ew, rw'⟩ := r.get hv
  have hj := (List.getElem?_eq_some_iff.mp hv).1
  have hn := line63
  exact wpAny_getItem_list pl.isList (by omega) (by omega) (by simpa using ew) ⟨v, H, I, rw', q⟩
theorem ip_xor {X : Cx} : PIp X .BitXor (ipI fun i j => Builtin.bitXor i j) := by
  intro pins s σ H x y v u Q I r1 r2 h
  obtain ⟨i, j, e1, e2, q⟩ := h
  subst e1; subst e2
  obtain ⟨t, rfl⟩ := r1
  obtain ⟨t', rfl⟩ := r2
  exact ixor_int ⟨.int _, H, I.tok _, ⟨_, rfl⟩, q⟩
section
variable {K : PySem.W.Frag} {te ta tb tc tl : TE} {tt : TT} {tA : TA} {ds : List SD} {ms : List MD} {R : RS} {P : Po}
/-- a place of a list of ints that may change, by a written number -/
theorem s_augN {i j : Nat} {f : Int → Int → Int} {c : Int} {k q : Nat} {ns : List Int} {x : Int} (hi : ds[i]? = some (.m k)) (hj : ds[j]? = some (.d (.int q))) (hm : ms[k]? = some (.l (ns.map .int))) (hx : ns[q]? = some x) (h : P.nx ds (ms.set k (.l ((ns.set q (f x c)).map .int)))) :
    S K (tAugS (tVar i) (tVar j) (tC (.int c)) (rIxN K) (ipI f) rSetL) ds ms P := fun L M σ H hS hA D n r b cc => by
  obtain ⟨v, e, p, rfl, hp⟩ := hS.get hi (fun z => nomatch z)
  obtain ⟨v2, e2, o2⟩ := hS.get hj (fun z => nomatch z)
  cases o2
  obtain ⟨xs, e1, r1⟩ := hA.get hp hm
  have hpL : p ∈ L := List.mem_of_getElem? hp
  have hxs := RpA.ints_inv r1
  subst hxs
  have hq := (List.getElem?_eq_some_iff.mp hx).1
  refine ⟨.ref p, e, .int q, e2, p, _, q, .int x, rfl, rfl, SqL.of e1, by rw [List.getElem?_map, hx]; rfl, x, c, rfl, rfl, p, _, q, q, rfl, rfl, e1, ?_, ?_⟩
  · unfold ixN
    rw [if_pos (by omega), if_pos (by rw [List.length_map]; omega)]
    simp
  · refine n σ _ ds _ (Wk.mut hpL) (hS.mono hA (Wk.mut hpL)) ?_ h
    have : (ns.map V.int).set q (.int (f x c)) = (ns.set q (f x c)).map V.int := by rw [List.map_set]
    rw [this]
    exact hA.put hp (RpA.ints _)
theorem rr_rep {a b : SD} (h : ∃ (e : PyData) (k : Int), a = .d (.list [e]) ∧ b = .d (.int k) ∧ 0 ≤ k ∧ k ≤ 1000 ∧ R (.f (List.replicate k.toNat e)) ms) : RR K rRep a b ms R := fun L M H x y hA ha hb Q q => by
  obtain ⟨e, k, rfl, rfl, h1, h2, r⟩ := h
  cases hb
  obtain ⟨p, xs, rfl, ep, rp⟩ := cat_lst ha
  obtain ⟨v, rfl⟩ : ∃ v, xs = [v] := by
    cases rp with
    | cons z y => cases y; exact ⟨_, rfl⟩
  refine ⟨p, k, [v], rfl, rfl, ep, by omega, by omega, by show 1 * k.toNat ≤ sizeLine; rw [Nat.one_mul]; exact Nat.le_trans (show k.toNat ≤ 1000 by omega) (by decide), ?_⟩
  have rr : ∀ m : Nat, RpA M H (List.replicate m [v]).flatten (List.replicate m e) := fun m => by
    induction m with
    | zero => exact .nil
    | succ m ih =>
      rw [List.replicate_succ, List.replicate_succ, List.flatten_cons]
      cases rp with
      | cons z y => exact .cons z ih
  intro l hl
  exact q (.f (List.replicate k.toNat e)) _ _ ms (Wk.new hl) (out_new hA (Wk.refl L H) hl (rr k.toNat)) r
theorem erase_map : ∀ (ns : List Int) (i : Nat), (ns.map V.int).eraseIdx i = (ns.eraseIdx i).map V.int
  | [], _ => rfl
  | _ :: _, 0 => rfl
  | a :: r, i + 1 => by
    show V.int a :: (r.map V.int).eraseIdx i = V.int a :: (r.eraseIdx i).map V.int
    rw [erase_map r i]
theorem inV_ints (x : Int) (ns : List Int) : inV (.int x) (ns.map V.int) = decide (x ∈ ns) := by
  unfold inV
  induction ns with
  | nil => rfl
  | cons a r ih =>
    rw [List.map_cons, List.any_cons, ih]
    show ((a == x) || _) = _
    by_cases e : a = x
    · subst e; simp
    · have e' : (a == x) = false := by simp [e]
      rw [e']
      have : ¬ x = a := fun z => e z.symm
      simp [this]
theorem flat_ints (ns : List Int) : (ns.map V.int).all flatV = true := by
  rw [List.all_eq_true]
  intro v hv
  obtain ⟨i, _, rfl⟩ := List.mem_map.mp hv
  rfl
theorem rr_in {a b : SD} {neg : Bool} (h : ∃ (x : Int) (ns : List Int), a = .d (.int x) ∧ (Sv ms b (.list (ns.map .int)) ∨ Sv ms b (.tuple (ns.map .int))) ∧ R (.d (.bool (if neg then !decide (x ∈ ns) else decide (x ∈ ns)))) ms) : RR K (rIn K neg) a b ms R := fun L M H u v hA ha hb Q q => by
  obtain ⟨x, ns, rfl, sv, r⟩ := h
  cases ha
  rw [← inV_ints] at r
  rcases sv with sv | sv
  · obtain ⟨p, xs, rfl, hq, hr⟩ := sv.lst hA hb
    rw [RpA.ints_inv hr] at hq
    exact ⟨p, _, rfl, .inl hq, rfl, flat_ints ns, q (.d (.bool _)) _ H ms (Wk.refl L H) ⟨hA, .bl _⟩ r⟩
  · obtain ⟨p, xs, rfl, hq, hr⟩ := sv.tup hb
    rw [RpA.ints_inv hr] at hq
    exact ⟨p, _, rfl, .inr (SqT.of hq), rfl, flat_ints ns, q (.d (.bool _)) _ H ms (Wk.refl L H) ⟨hA, .bl _⟩ r⟩
theorem rc_sorted {as : List SD} (h : ∃ (s : SD) (ns : List Int), as = [s] ∧ Sv ms s (.list (ns.map .int)) ∧ ∀ ns' : List Int, ns'.Perm ns → ns'.Pairwise (· ≤ ·) → R (.f (ns'.map .int)) ms) : RC K (rSortedI K) as ms R := fun L M H vs hA ha Q q => by
  obtain ⟨s, ns, rfl, sv, r⟩ := h
  obtain ⟨v, t, rfl, hv, rfl⟩ := ha
  obtain ⟨p, xs, rfl, hq, hr⟩ := sv.lst hA hv
  rw [RpA.ints_inv hr] at hq
  refine ⟨p, ns, rfl, hq, ?_⟩
  intro ns' l hp hs hl
  exact q (.f (ns'.map .int)) _ _ ms (Wk.new hl) (out_new hA (Wk.refl L H) hl (RpA.ints ns')) (r ns' hp hs)
/-- list(range(n)) -/
theorem e_lrg (h : E K ta ds ms fun s ms1 => ∃ n : Nat, s = .d (.int n) ∧ n ≤ 10000 ∧ R (.f ((List.range n).map fun k : Nat => PyData.int k)) ms1) : E K (tLstRg (tRg1 ta)) ds ms R := fun L M σ H hS hA Q q =>
  h L M σ H hS hA _ fun s v H1 ms1 w o ⟨n, e, hn, r⟩ => by
    subst e
    obtain ⟨a1, z⟩ := o
    cases z
    refine ⟨n, rfl, .of_le (by omega) (by omega) (by omega) (by omega), fun l hl => ?_⟩
    have rr : RpA M H1 (rgV 0 (n : Int)) ((List.range n).map fun k : Nat => PyData.int k) := by
      unfold rgV
      have e0 : ((n : Int) - 0).toNat = n := by omega
      rw [e0]
      have : ∀ l : List Nat, RpA M H1 (l.map fun i : Nat => V.int (0 + (i : Int))) (l.map fun k : Nat => PyData.int k) := fun l => by
        induction l with
        | nil => exact .nil
        | cons a r ih =>
          refine .cons ?_ ih
          show Rp M H1 (.int (0 + (a : Int))) (.int a)
          rw [Int.zero_add]
          exact .int _
      exact this _
    exact q (.f _) _ _ ms1 (w.trans (Wk.new hl)) (out_new a1 w hl rr) r
/-- xs.pop(i) of a list of ints that may change -/
theorem e_popAt (h : E K ta ds ms fun s ms1 => ∃ k, s = .m k ∧ E K te ds ms1 fun x ms2 => ∃ (ns : List Int) (i : Nat) (y : Int), x = .d (.int i) ∧ ms2[k]? = some (.l (ns.map .int)) ∧ ns[i]? = some y ∧ ns.length ≤ 10000 ∧ R (.d (.int y)) (ms2.set k (.l ((ns.eraseIdx i).map .int)))) : E K (tBM K "list" rPopAt ta (tCons te tNil)) ds ms R := fun L M σ H hS hA Q q =>
  h L M σ H hS hA _ fun s v H1 ms1 w o ⟨k, e, h2⟩ => by
    subst e
    obtain ⟨a1, p, rfl, hp⟩ := o
    have hpL : p ∈ L := List.mem_of_getElem? hp
    have hk : k < ms1.length := by rw [← a1.ln]; exact (List.getElem?_eq_some_iff.mp hp).1
    · obtain ⟨xs0, e0⟩ := (a1.ok k p _ hp (List.getElem?_eq_getElem hk)).lst
      refine ⟨.inl ⟨rfl, xs0, SqL.of e0⟩, ?_⟩
      refine h2 L M σ H1 (hS.mono hA w) a1 _ fun x y H2 ms2 w2 o2 ⟨ns, i, z, ex, em, hz, hl, r⟩ => ?_
      subst ex
      obtain ⟨a2, o⟩ := o2
      cases o
      obtain ⟨xs, e1, r1⟩ := a2.get hp em
      have hxs := RpA.ints_inv r1
      subst hxs
      have hi := (List.getElem?_eq_some_iff.mp hz).1
      refine ⟨p, _, i, i, .int z, rfl, rfl, e1, by omega, by omega, ?_, by rw [List.getElem?_map, hz]; rfl, ?_⟩
      · unfold seqIndex?
        simp only [List.length_map]
        rw [if_neg (show ¬ (i : Int) < 0 by omega)]
        simp [hi]
      · have : (ns.map V.int).eraseIdx i = (ns.eraseIdx i).map V.int := erase_map ns i
        rw [this]
        exact q (.d (.int z)) _ _ _ ((w.trans w2).trans (Wk.mut hpL)) ⟨a2.put hp (RpA.ints _), .int z⟩ r
theorem e_count (h : E K ta ds ms fun s ms1 => ∃ ns : List Int, Sv ms1 (dd s) (.list (ns.map .int)) ∧ E K te ds ms1 fun x ms2 => ∃ k : Int, x = .d (.int k) ∧ ms2 = ms1 ∧ R (.d (.int (ns.count k : Nat))) ms2) : E K (tBM K "list" (rCntI K) ta (tCons te tNil)) ds ms R := fun L M σ H hS hA Q q =>
  h L M σ H hS hA _ fun s v H1 ms1 w o ⟨ns, sv, h2⟩ => by
    have a1 := o.at
    have os := o.sl
    obtain ⟨p, xs, rfl, hq, hr⟩ := sv.lst a1 os
    refine ⟨.inl ⟨rfl, xs, hq⟩, ?_⟩
    refine h2 L M σ H1 (hS.mono hA w) a1 _ fun x y H2 ms2 w2 o2 ⟨k, ex, em, r⟩ => ?_
    subst ex em
    obtain ⟨a2, z⟩ := o2
    cases z
    obtain ⟨p2, xs2, ep, hq2, hr2⟩ := sv.lst a2 (os.mono a1 w2)
    cases ep
    rw [RpA.ints_inv hr2] at hq2
    exact ⟨p, ns, k, rfl, rfl, hq2, q (.d (.int _)) _ H2 _ (w.trans w2) ⟨a2, .int _⟩ r⟩
section
variable {L M : List Addr} {σ : L2.St} {H1 H' : Hp}
theorem lc_turn2 {g : TG} {js : List Nat} {vs : List Nat} {D : Addr} {i : Nat} {acc : List PyData} {ms0 ms1 : List MD} {H2 : Hp} {x : SD} {v : V} {Nn : Nat → List PyData → List MD → Prop} (hj : ∀ j ∈ js, j ∈ vs) (hi : i < 10000)
    (hS : Sl K L M σ H1 ds) (a0 : At L M ms0 H1) (hD : H1 D = none) (c : Cs L M H1 D i acc ms1 H2) (ho : SlOk K L (M ++ [D]) H2 x v) (h : Lt K g js tt te vs ds x ms1 acc (Nn (i + 1))) :
    g v (L2.wipe σ vs) H2 fun σ2 H3 => L2.wipe σ2 vs = L2.wipe σ vs ∧ tt σ2 H3 fun b H4 => if b = true then te σ2 H4 fun y H5 => ∃ ac, H5 D = some (.lst ac) ∧ ac.length < sizeLine ∧ (∃ acc' ms', Cs L M H1 D (i + 1) acc' ms' (upd H5 D (.lst (ac ++ [y]))) ∧ Nn (i + 1) acc' ms') else ∃ acc' ms', Cs L M H1 D (i + 1) acc' ms' H4 ∧ Nn (i + 1) acc' ms' := by
  have t : To M (M ++ [D]) H1 H2 := to_new a0 hD c.w
  have hDL : D ∉ L := a0.freshL hD
  have s2 : Sl K L (M ++ [D]) (L2.wipe σ vs) H2 (wipeD ds vs) := (hS.to t fun _ _ e => e).wipe vs
  refine h L (M ++ [D]) (L2.wipe σ vs) H2 v s2 c.a ho _ fun σ2 ds2 sl2 wp h2 => ?_
  have wv : L2.wipe σ2 vs = L2.wipe σ vs := by
    rw [wp vs hj]
    apply List.ext_getElem?
    intro i
    rw [wipe_get, wipe_get, wipe_length]
    by_cases e : i ∈ vs
    · rw [if_pos e, if_pos e]
    · simp only [if_neg e, wipe_get]
  refine ⟨wv, ?_⟩
  refine h2 L (M ++ [D]) σ2 H2 sl2 c.a _ fun b H4 ms4 w4 a4 ⟨k1, k2⟩ => ?_
  obtain ⟨xs, e, r⟩ := c.d
  have e4 : H4 D = some (.lst xs) := w4 D _ hDL e
  have r4 : RpA (M ++ [D]) H4 xs acc := RpA.to (c.a.wk w4) _ _ r
  cases b with
  | false =>
    rw [if_neg Bool.false_ne_true]
    exact ⟨acc, ms4, ⟨c.w.trans w4, a4, Nat.le_succ_of_le c.le, xs, e4, r4⟩, k2 rfl⟩
  | true =>
    rw [if_pos rfl]
    refine k1 rfl L (M ++ [D]) σ2 H4 (sl2.mono c.a w4) a4 _ fun s y H5 ms5 w5 o5 ⟨d, ed, hn⟩ => ?_
    have a5 := o5.at
    have ry := o5.sl
    rw [ed] at ry
    have e5 : H5 D = some (.lst xs) := w5 D _ hDL e4
    have r5 : RpA (M ++ [D]) H5 xs acc := RpA.to (a4.wk w5) _ _ r4
    have hDM : D ∈ M ++ [D] := by simp
    have tt5 : To (M ++ [D]) (M ++ [D]) H5 (upd H5 D (.lst (xs ++ [y]))) := fun a o n q => ⟨n, by rw [upd_ne (fun z : a = D => n (by rw [z]; exact hDM))]; exact q⟩
    refine ⟨xs, e5, by rw [r5.length]; exact Nat.lt_of_le_of_lt c.le (Nat.lt_trans hi (by decide)), acc ++ [d], ms5, ⟨fun a o n q => ?_, ⟨a5.nd, a5.sub, fun p hp => ?_, a5.ln, fun k p m e1 e2 => ?_⟩, ?_, xs ++ [y], upd_same, RpA.to tt5 _ _ (r5.append (.cons ry .nil))⟩, hn⟩
    · rw [upd_ne (ne_of_none q hD)]
      exact w5 a o n (w4 a o n (c.w a o n q))
    · by_cases z : p = D
      · subst z; rw [upd_same]; exact fun z => nomatch z
      · rw [upd_ne z]; exact a5.al p hp
    · exact (a5.ok k p m e1 e2).to tt5 (upd_ne (fun z => hDL (z ▸ List.mem_of_getElem? e1)))
    · rw [List.length_append]; have := c.le; simp; exact this
theorem Cs.new {D T : Addr} {i : Nat} {acc : List PyData} {ms1 : List MD} {H2 : Hp} {o : HO} (c : Cs L M H1 D i acc ms1 H2) (hT : H2 T = none) : Cs L M H1 D i acc ms1 (upd H2 T o) := by
  obtain ⟨xs, e, r⟩ := c.d
  exact ⟨c.w.trans (Wk.new hT), c.a.new hT, c.le, xs, by rw [upd_ne (ne_of_none e hT)]; exact e, RpA.to (c.a.wk (Wk.new hT)) _ _ r⟩
end
/-- over zip(t, u) of two tuples -/
theorem e_lcZ {g : TG} {js vs : List Nat} (hj : ∀ j ∈ js, j ∈ vs) (h : EA K tA ds ms fun as ms0 => ∃ es fs : List PyData, as = [.d (.tuple es), .d (.tuple fs)] ∧ es.length ≤ 10000 ∧ ∃ Pv : Nat → List PyData → List MD → Prop, Pv 0 [] ms0 ∧
      (∀ i e f acc ms1, es[i]? = some e → fs[i]? = some f → Pv i acc ms1 → Lt K g js tt te vs ds (.d (.tuple [e, f])) ms1 acc (Pv (i + 1))) ∧ ∀ acc ms1, Pv (min es.length fs.length) acc ms1 → R (.f acc) ms1) :
    E K (tLc (RZ.iZipA K tA) g tt te vs) ds ms R := fun L M σ H hS hA Q q =>
  h L M σ H hS hA _ fun as us H1 ms0 w a1 o ⟨es, fs, ea, hz, Pv, h0, hs, hd⟩ => by
    subst ea
    obtain ⟨v1, t1, rfl, o1, v2, t2, rfl, o2, rfl⟩ := o
    have o1' : Rp M H1 v1 (.tuple es) := o1
    have o2' : Rp M H1 v2 (.tuple fs) := o2
    cases o1' with
    | @tup a xs _ na ea rx =>
    cases o2' with
    | @tup b ys _ nb eb ry =>
    have hx : ∀ H', Wk L H1 H' → SqT K H' a xs := fun H' w' => SqT.of (w' a _ (fun z => na (a1.sub a z)) ea)
    have hy : ∀ H', Wk L H1 H' → SqT K H' b ys := fun H' w' => SqT.of (w' b _ (fun z => nb (a1.sub b z)) eb)
    refine ⟨a, b, xs, ys, rfl, .inr ⟨hx H1 (Wk.refl L H1), hy H1 (Wk.refl L H1), fun D hD => ?_⟩⟩
    have hDL := a1.freshL hD
    refine ⟨fun i m H' => m = min es.length fs.length - i ∧ i ≤ min es.length fs.length ∧ ∃ acc ms', Cs L M H1 D i acc ms' H' ∧ Pv i acc ms', ⟨_, rfl, Nat.zero_le _, [], ms0, .start a1 hD, h0⟩, ?_⟩
    rintro i m H' ⟨rfl, hi, acc, ms', c, p⟩
    have qx := hx H' c.w
    have qy := hy H' c.w
    by_cases hlt : i < min es.length fs.length
    · have l1 : i < xs.length := by rw [rx.length]; omega
      have l2 : i < ys.length := by rw [ry.length]; omega
      refine .inr ⟨⟨xs, ys, xs[i], ys[i], qx, qy, by simp [l1], by simp [l2]⟩, fun H2 => ∃ acc' ms2, Cs L M H1 D (i + 1) acc' ms2 H2 ∧ Pv (i + 1) acc' ms2, fun H2 ⟨acc', ms2, c2, p2⟩ => ⟨min es.length fs.length - (i + 1), by omega, rfl, hlt, acc', ms2, c2, p2⟩, fun v H2 y => ?_⟩
      obtain ⟨T, x, y, rfl, hT, rfl, fx, fy⟩ := y
      obtain ⟨e, e1, e2⟩ := rx.get' (fx xs qx)
      obtain ⟨f, f1, f2⟩ := ry.get' (fy ys qy)
      have c2 := c.new (o := .tup [x, y]) hT
      have tt2 : To M (M ++ [D]) H1 (upd H' T (.tup [x, y])) := to_new a1 hD c2.w
      have ho : SlOk K L (M ++ [D]) (upd H' T (.tup [x, y])) (.d (.tuple [e, f])) (.ref T) := Rp.tup (c.a.fresh hT) upd_same (.cons (Rp.to tt2 _ _ e2) (.cons (Rp.to tt2 _ _ f2) .nil))
      exact lc_turn2 (x := .d (.tuple [e, f])) (v := .ref T) (Nn := Pv) hj (by omega) (hS.mono hA w) a1 hD c2 ho (hs i e f acc ms' e1 f1 p)
    · have e : i = min es.length fs.length := by omega
      subst e
      refine .inl ⟨⟨xs, ys, qx, qy, by rw [rx.length, ry.length]; omega⟩, ?_⟩
      exact q (.f acc) _ H' ms' (w.trans c.w) ⟨D, rfl, none_back a1 w (a1.fresh hD) hD, a1.fresh hD, c.done a1.sub hDL, a1.sub⟩ (hd acc ms' p)
theorem e_lcR2 {g : TG} {js vs : List Nat} (hj : ∀ j ∈ js, j ∈ vs) (h : EA K tA ds ms fun as ms0 => ∃ lo n : Int, as = [.d (.int lo), .d (.int n)] ∧ (-(2 ^ 62) ≤ lo ∧ lo < 2 ^ 62 ∧ -(2 ^ 62) ≤ n ∧ n < 2 ^ 62 ∧ n - lo ≤ 10000) ∧ ∃ Pv : Nat → List PyData → List MD → Prop, Pv 0 [] ms0 ∧
      (∀ i acc ms1, i < (n - lo).toNat → Pv i acc ms1 → Lt K g js tt te vs ds (.d (.int (lo + i))) ms1 acc (Pv (i + 1))) ∧ ∀ acc ms1, Pv (n - lo).toNat acc ms1 → R (.f acc) ms1) :
    E K (tLc (iRng2 tA) g tt te vs) ds ms R := fun L M σ H hS hA Q q =>
  h L M σ H hS hA _ fun as us H1 ms0 w a1 o ⟨lo, n, ea, hn, Pv, h0, hs, hd⟩ => by
    subst ea
    obtain ⟨v, t1, rfl, hv, v2, t2, rfl, hv2, rfl⟩ := o
    cases hv; cases hv2
    refine ⟨lo, n, rfl, ⟨hn.1, hn.2.1, hn.2.2.1, hn.2.2.2.1⟩, fun D hD => ?_⟩
    have hDL := a1.freshL hD
    refine lc_range (lo := lo) (n := (n - lo).toNat) (fun i H' => ∃ acc ms', Cs L M H1 D i acc ms' H' ∧ Pv i acc ms') ⟨[], ms0, .start a1 hD, h0⟩ (fun i H' hi ⟨acc, ms', c, p⟩ => ?_) (fun H' ⟨acc, ms', c, p⟩ => ?_)
    · exact lc_turn (x := .d (.int (lo + i))) (v := .int (lo + (i : Int))) (Nn := Pv) hj (by have := hn.2.2.2.2; omega) (hS.mono hA w) a1 hD c (.int _) (hs i acc ms' hi p)
    · exact q (.f acc) _ H' ms' (w.trans c.w) ⟨D, rfl, none_back a1 w (a1.fresh hD) hD, a1.fresh hD, c.done a1.sub hDL, a1.sub⟩ (hd acc ms' p)
end
end Hc

namespace Hc
open PySem PySem.Spec PyProof.Rows L2
/-! ### enumerate(t) of a tuple -/
abbrev enO (i : Addr) : Obj := { cls := .type "enumerate", data := .fields #[.none, .bool false, .ref i, rawInt 0, .none, .none] }
theorem en_new {v : Value} {ob : Obj} {G : Heap → Prop} (B : Begins v ob G) :
    Meets (Builtin.«enumerate.__new__» ⟨[.type "enumerate", v], []⟩) (fun _ R st => G st.heap ∧
      R (.ok (.ret (.ref (st.heap.push ob).objs.size))) { st with heap := (st.heap.push ob).push (enO st.heap.objs.size) }) :=
  .of_wp fun pr wd Ar R st hh => by
    obtain ⟨hp, gn, dr, tk, os⟩ := st
    obtain ⟨g1, g2⟩ := hh
    have sb := sub_enumerate
    have go : ∀ {A2 : Around} {E2 : Value → Shared → Prop} {Q2 : Value → Shared → Prop}, Q2 (.ref hp.objs.size) ⟨hp.push ob, gn, dr, tk, os⟩ →
        wpAny (model pr wd) A2 (pyIter v) Q2 E2 ⟨hp, gn, dr, tk, os⟩ := fun z => B.iter pr wd _ _ ⟨hp, gn, dr, tk, os⟩ _ g1 z
    wp_walk using go
    refine wpAny_stack_any fun sk => wpAny_pure ?_
    split
    · rename_i cl _ _ _ _ _
      cases (cl == Value.type "enumerate") <;> (wp_walk using go; exact ⟨_, rfl, g2⟩)
    · wp_walk using go
      exact ⟨_, rfl, g2⟩
section
variable {pr : Program} {wd : World} {Ar : Around} {Ex : Value → Shared → Prop} {st : Shared}
theorem en_call {v : Value} {ob : Obj} {G : Heap → Prop} {Q : Value → Shared → Prop} (B : Begins v ob G) (g : G st.heap)
    (k : ∀ hp, IsEnum hp (st.heap.objs.size + 1) st.heap.objs.size 0 .none → hp.get? st.heap.objs.size = some ob → (∀ b u, st.heap.get? b = some u → hp.get? b = some u) → Q (.ref (st.heap.objs.size + 1)) { st with heap := hp }) :
    wpAny (model pr wd) Ar (call (.type "enumerate") [v]) Q Ex st := by
  refine callType_new F.called_enumerate (by decide) (F.typeCall_enumerate_1 _) (F.newCall_enumerate_1 _) (fun z => F.args_object_init_2 z _)
    F.entry_enumerate_new (en_new B) ⟨g, ?_⟩
  have sz : (st.heap.push ob).objs.size = st.heap.objs.size + 1 := Heap.size_push ..
  have en : IsEnum ((st.heap.push ob).push (enO st.heap.objs.size)) (st.heap.objs.size + 1) st.heap.objs.size 0 .none := by
    rw [← sz]
    exact Heap.get?_push_size (st.heap.push ob) rfl
  show _ ∧ _
  rw [sz]
  exact ⟨⟨_, en, rfl⟩, k _ en (Heap.get?_push_of_some _ (Heap.get?_push_size _ B.free)) fun b u z => Heap.get?_push_of_some _ (Heap.get?_push_of_some _ z)⟩
end
/-- the tuple at a, in new pairs with the numbers -/
def ItE (K : PySem.W.Frag) (a : Addr) : It where
  go := fun i H => ∃ (xs : List V) (x : V), SqT K H a xs ∧ xs[i]? = some x
  yld := fun i H v H2 => ∃ (N : Addr) (x : V), v = .ref N ∧ H N = none ∧ H2 = upd H N (.tup [.int ((i : Nat) : Int), x]) ∧ ∀ xs : List V, SqT K H a xs → xs[i]? = some x
  stop := fun i H => ∃ xs : List V, SqT K H a xs ∧ i = xs.length
theorem two_ne {h : Heap} {a b : Addr} {o u : Obj} (ha : h.get? a = some o) (hb : h.get? b = some u) (hc : o.cls ≠ u.cls) : a ≠ b := fun z => by
  subst z
  rw [ha] at hb
  exact hc (congrArg Obj.cls (Option.some.inj hb))
theorem turn_enT {P : Program} {w : World} {K : PySem.W.Frag} {es : List Expr} {n : Nat} {q : Pos} (a e i1 : Addr) :
    Turn P w K (.Tuple es n q) (ItE K a) [e, i1] e (fun i h => (∃ z, IsEnum h e i1 ((i : Nat) : Int) z) ∧ h.IsTupleIter i1 a i ∧ e ≠ i1) where
  mem := List.mem_cons_self ..
  obj := fun i h tn b hb => by
    obtain ⟨⟨z, he⟩, ⟨o, ho, _, hd⟩, _⟩ := tn
    rcases List.mem_cons.mp hb with rfl | hb
    · exact ⟨_, he, nofun⟩
    · rw [List.mem_singleton.mp hb]
      exact ⟨o, ho, fun v y => by rw [hd] at y; cases y⟩
  keep := fun i h h2 tn k => by
    obtain ⟨⟨z, he⟩, hi, ne⟩ := tn
    exact ⟨⟨z, k e (by simp) _ he⟩, hi.at fun o y => k i1 (by simp) o y, ne⟩
  item := by
    intro X e1 e2 e3 cm i pins s σ H Ex I fp tn gg
    subst e1 e2 e3
    obtain ⟨⟨z, he⟩, hi, ne⟩ := tn
    obtain ⟨xs, x, sq, hx⟩ := gg
    obtain ⟨its, rv, tp, _⟩ := I.tuple sq
    obtain ⟨u, hu, ru⟩ := rv.get hx
    have tp' : s.heap.IsTuple a its.toArray := tp
    obtain ⟨o1, ho1, hc1, _⟩ := id tp'
    obtain ⟨o2, ho2, hc2, _⟩ := id hi
    have ai : a ≠ i1 := two_ne ho1 ho2 (by rw [hc1, hc2]; exact (by simp))
    have ea : e ≠ a := two_ne he ho1 (by rw [hc1]; exact (by simp))
    have el := Heap.lt_size he
    have il := Heap.lt_size ho2
    have lt : i < its.toArray.size := by
      have := (List.getElem?_eq_some_iff.mp hu).1
      simpa using this
    have D : Draws X.prog X.w X.A.in1 i1 [i1, a] its.toArray.size (fun j v => its.toArray[j]? = some v) (fun j hp => hp.IsTupleIter i1 a j ∧ hp.IsTuple a its.toArray) := Draws.tuple (A := X.A.in1) (show X.A.in1.handled = none from I.ok.hd cm) i1 a ai its.toArray
    refine wpAny_pyNext_enum_itemD D he ⟨hi, tp'⟩ lt ne (by simp; exact ⟨ne, ea⟩) fun u2 h2 tk hu2 out hs2 hT _ kp => ?_
    have : u2 = u := by
      have y : its.toArray[i]? = some u2 := hu2
      rw [List.getElem?_toArray, hu] at y
      exact (Option.some.inj y).symm
    subst this
    refine ⟨_, rfl, wpAny_letOwnedTupleGo_enum (s := { s with heap := h2, toks := tk + 1 }) out fun h3 he3 sb => ?_⟩
    have hT3 : h3.get? s.heap.objs.size = some { cls := .type "tuple", data := .seq #[.int i tk, u2] } := (sb.2 _ (Nat.ne_of_gt el)).trans hT
    have ok : ObjOk X.prog X.w (upd H s.heap.objs.size (.tup [.int ((i : Nat) : Int), x])) h3 s.heap.objs.size (.tup [.int ((i : Nat) : Int), x]) :=
      ⟨Nat.le_of_ble_eq_true rfl, [.int i tk, u2], .cons ⟨_, rfl⟩ (.cons ru .nil), ⟨_, hT3, rfl, _, rfl⟩⟩
    have I3 : L2.Inv X pins σ (upd H s.heap.objs.size (.tup [.int ((i : Nat) : Int), x])) { s with heap := h3, toks := tk + 1 } :=
      I.turnedNew (ch := [e, i1]) (fun b o nb y => by
        have b1 : b ≠ e := fun y => nb (by simp [y])
        have b2 : b ≠ i1 := fun y => nb (by simp [y])
        exact (sb.2 b b1).trans (kp b o b1 b2 y)) fp (Nat.le_refl _) ok
    refine ⟨.ref s.heap.objs.size, _, I3, rfl, ⟨_, x, rfl, I.hok.fresh (Nat.le_refl _), rfl, fun ys sy => by rw [I.tuple_inj sy sq]; exact hx⟩, ⟨⟨u2, ?_⟩, hs2.1.at fun o y => (sb.2 i1 (Ne.symm ne)).trans y, ne⟩, fun b hb => ?_⟩
    · have c : (((i + 1 : Nat)) : Int) = (i : Int) + 1 := Int.natCast_succ i
      rw [c]
      exact he3
    · have lb : b < s.heap.objs.size := by
        rcases List.mem_cons.mp hb with rfl | hb
        · exact el
        · rw [List.mem_singleton.mp hb]; exact il
      rw [upd_ne (Nat.ne_of_lt lb)]
      exact (fp b hb).1
  done := by
    intro X e1 e2 e3 cm i pins s σ H Ex I fp tn gg
    subst e1 e2 e3
    obtain ⟨⟨z, he⟩, hi, ne⟩ := tn
    obtain ⟨xs, sq, hx⟩ := gg
    obtain ⟨its, rv, tp, _⟩ := I.tuple sq
    have tp' : s.heap.IsTuple a its.toArray := tp
    obtain ⟨o1, ho1, hc1, _⟩ := id tp'
    obtain ⟨o2, ho2, hc2, _⟩ := id hi
    have ai : a ≠ i1 := two_ne ho1 ho2 (by rw [hc1, hc2]; exact (by simp))
    have D : Draws X.prog X.w X.A.in1 i1 [i1, a] its.toArray.size (fun j v => its.toArray[j]? = some v) (fun j hp => hp.IsTupleIter i1 a j ∧ hp.IsTuple a its.toArray) := Draws.tuple (A := X.A.in1) (show X.A.in1.handled = none from I.ok.hd cm) i1 a ai its.toArray
    have ln := rv.length
    have is : its.toArray.size = i := by simp; omega
    obtain ⟨f0, f1, _, f3, f4, f5⟩ := fp i1 (by simp)
    exact wpAny_pyNext_enum_endD D he (by rw [is]; exact ⟨hi, tp'⟩) fun h2 eb => ⟨rfl, I.turned (t' := s.toks) (fun b o nb y => eb b o nb y) f0 f1 f3 f4 f5⟩
  self := fun A i s Q Ex tn k => by
    obtain ⟨⟨z, he⟩, _⟩ := tn
    exact wpAny_pyIter_enum he k
def iEnT (K : PySem.W.Frag) (ta : TA) : TI := fun σ H R => ta σ H fun vs H1 => ∃ (a : Addr) (xs : List V), vs = [.ref a] ∧ SqT K H1 a xs ∧ R (ItE K a) H1
theorem pi_enT {X : Cx} {ex : Expr} {ta : TA} {p1 p2 p3 : Pos} {es : List Expr} {n : Nat} (hg : Gl X "enumerate") (hm : X.mg "enumerate" = none) (ha : PA X [ex] ta) (hs : starEach [ex] X.env = [(false, eval ex X.env)] := by rfl) :
    PI X (.Tuple es n p3) (.Call (.Name "enumerate" p1) [ex] [] p2) (iEnT X.K ta) := by
  constructor
  intro pins s σ H R I h
  refine Call_ (ld_blt I hg hm boot_enumerate (PyProof.Rows.callWith_type1 (thn (ha.run p2 pins s σ H _ I h) ?_) hs rfl))
  rintro us s1 ⟨vs, H1, I1, r1, a, xs, rfl, sq, q⟩
  cases r1 with
  | cons r rr =>
    cases rr
    cases r
    obtain ⟨its, rv, tp, _⟩ := I1.tuple sq
    refine en_call (begins_tuple a its.toArray) tp fun hp he hi kp => wpAny_pyIter_enum he ?_
    have fr : ∀ b ∈ [s1.heap.objs.size + 1, s1.heap.objs.size], FpOk X pins H1 b := fun b hb => by
      have le : s1.heap.objs.size ≤ b := by
        rcases List.mem_cons.mp hb with rfl | hb
        · exact Nat.le_succ _
        · rw [List.mem_singleton.mp hb]
          exact Nat.le_refl _
      exact I1.fpOk le (I1.hok.fresh le)
    exact ⟨_, [s1.heap.objs.size + 1, s1.heap.objs.size], _, _, H1, rfl, I1.kept (t' := s1.toks) kp, turn_enT a _ _, ⟨⟨.none, he⟩, ⟨_, hi, rfl, rfl⟩, Nat.succ_ne_self _⟩, fr, q⟩
theorem walk_enT {K : PySem.W.Frag} {a : Addr} {xs : List V} : Walk (ItE K a) xs.length (fun H => SqT K H a xs) (YPair (fun i => some (V.int ((i : Nat) : Int))) (fun i => xs[i]?)) where
  goes := fun i H hi sq => ⟨xs, xs[i], sq, List.getElem?_eq_getElem hi⟩
  stops := fun H sq => ⟨xs, sq, rfl⟩
  yields := fun i H v H2 hi sq ⟨N, x, e, f, u, k⟩ => ⟨N, _, x, e, f, u, rfl, k xs sq⟩
section
variable {K : PySem.W.Frag} {te ta tb tc tl : TE} {tt : TT} {tA : TA} {ds : List SD} {ms : List MD} {R : RS} {t u : TS} {P : Po}
theorem s_forET {g : TG} {js : List Nat} (h : EA K tA ds ms fun as ms0 => ∃ es : List PyData, as = [.d (.tuple es)] ∧ ∃ Pv : Nat → List SD → List MD → Prop, Pv 0 ds ms0 ∧
      (∀ i e ds1 ms1, es[i]? = some e → Pv i ds1 ms1 → EG K g js (.d (.tuple [.int (i : Nat), e])) ds1 ms1 fun ds2 ms2 => S K t ds2 ms2 { P with nx := Pv (i + 1), ct := Pv (i + 1), bk := P.nx }) ∧ ∀ ds1 ms1, Pv es.length ds1 ms1 → P.nx ds1 ms1) :
    S K (tFor (iEnT K tA) g t) ds ms P := fun L M σ H hS hA D n r b c =>
  h L M σ H hS hA _ fun as vs H1 ms0 w a1 o ⟨es, ea, Pv, h0, hs, hd⟩ => by
    subst ea
    obtain ⟨v, t1, rfl, hv, rfl⟩ := o
    have hv' : Rp M H1 v (.tuple es) := hv
    cases hv' with
    | @tup a xs _ na ea rx =>
    refine ⟨a, xs, rfl, SqT.of ea, for_it walk_enT (fun i σ' H' => ∃ ds' ms', Wk L H1 H' ∧ Sl K L M σ' H' ds' ∧ At L M ms' H' ∧ Pv i ds' ms') ⟨ds, ms0, Wk.refl L H1, hS.mono hA w, a1, h0⟩ (fun i σ' H' _ ⟨_, _, w', _⟩ => SqT.of (w' a _ (fun z => na (a1.sub a z)) ea)) (fun i x σ' H' H2 hi ⟨ds', ms', w', s', a', p'⟩ y => ?_) (fun σ' H' ⟨ds', ms', w', s', a', p'⟩ => ?_)⟩
    · obtain ⟨N, c1, y1, rfl, hN, rfl, q1, q2⟩ := y
      cases q1
      obtain ⟨e, e1, e2⟩ := rx.get' q2
      have w2 : Wk L H' (upd H' N (.tup [.int (i : Nat), y1])) := Wk.new hN
      have a2 := a'.new (o := .tup [.int (i : Nat), y1]) hN
      have w3 := w'.trans w2
      refine hs i e ds' ms' e1 p' L M σ' _ (.ref N) (s'.mono a' w2) a2 (Rp.tup (a'.fresh hN) upd_same (.cons (.int _) (.cons (Rp.to (a1.wk w3) _ _ e2) .nil))) _ fun σ2 ds2 s2 _ h2 => ?_
      exact h2 L M σ2 _ s2 a2 _ (fun σ3 H3 ds3 ms3 w4 s3 a3 p3 => ⟨ds3, ms3, w3.trans w4, s3, a3, p3⟩) (r.on a2 (w.trans w3)) (n.on (w.trans w3)) (fun σ3 H3 ds3 ms3 w4 s3 a3 p3 => ⟨ds3, ms3, w3.trans w4, s3, a3, p3⟩)
    · rw [rx.length] at p'
      exact n σ' H' ds' ms' (w.trans w') s' a' (hd ds' ms' p')
theorem s_forEL {g : TG} {js : List Nat} (h : EA K tA ds ms fun as ms0 => ∃ (s : SD) (es : List PyData), as = [s] ∧ Sw s es ∧ ∃ Pv : Nat → List SD → List MD → Prop, Pv 0 ds ms0 ∧
      (∀ i e ds1 ms1, es[i]? = some e → Pv i ds1 ms1 → EG K g js (.d (.tuple [.int (i : Nat), e])) ds1 ms1 fun ds2 ms2 => S K t ds2 ms2 { P with nx := Pv (i + 1), ct := Pv (i + 1), bk := P.nx }) ∧ ∀ ds1 ms1, Pv es.length ds1 ms1 → P.nx ds1 ms1) :
    S K (tFor (iEnum K tA) g t) ds ms P := fun L M σ H hS hA D n r b c =>
  h L M σ H hS hA _ fun as vs H1 ms0 w a1 o ⟨s, es, ea, sw, Pv, h0, hs, hd⟩ => by
    subst ea
    obtain ⟨v, t1, rfl, hv, rfl⟩ := o
    obtain ⟨a, xs, rfl, rx, hx⟩ := sw.is a1 hv
    refine ⟨a, xs, rfl, hx H1 (Wk.refl L H1), for_it walk_enum (fun i σ' H' => ∃ ds' ms', Wk L H1 H' ∧ Sl K L M σ' H' ds' ∧ At L M ms' H' ∧ Pv i ds' ms') ⟨ds, ms0, Wk.refl L H1, hS.mono hA w, a1, h0⟩ (fun i σ' H' _ ⟨_, _, w', _⟩ => hx H' w') (fun i x σ' H' H2 hi ⟨ds', ms', w', s', a', p'⟩ y => ?_) (fun σ' H' ⟨ds', ms', w', s', a', p'⟩ => ?_)⟩
    · obtain ⟨N, c1, y1, rfl, hN, rfl, q1, q2⟩ := y
      cases q1
      obtain ⟨e, e1, e2⟩ := rx.get' q2
      have w2 : Wk L H' (upd H' N (.tup [.int (i : Nat), y1])) := Wk.new hN
      have a2 := a'.new (o := .tup [.int (i : Nat), y1]) hN
      have w3 := w'.trans w2
      refine hs i e ds' ms' e1 p' L M σ' _ (.ref N) (s'.mono a' w2) a2 (Rp.tup (a'.fresh hN) upd_same (.cons (.int _) (.cons (Rp.to (a1.wk w3) _ _ e2) .nil))) _ fun σ2 ds2 s2 _ h2 => ?_
      exact h2 L M σ2 _ s2 a2 _ (fun σ3 H3 ds3 ms3 w4 s3 a3 p3 => ⟨ds3, ms3, w3.trans w4, s3, a3, p3⟩) (r.on a2 (w.trans w3)) (n.on (w.trans w3)) (fun σ3 H3 ds3 ms3 w4 s3 a3 p3 => ⟨ds3, ms3, w3.trans w4, s3, a3, p3⟩)
    · rw [rx.length] at p'
      exact n σ' H' ds' ms' (w.trans w') s' a' (hd ds' ms' p')
/-- xs.pop(i) of any list that may change -/
theorem e_popD (h : E K ta ds ms fun s ms1 => ∃ k, s = .m k ∧ E K te ds ms1 fun x ms2 => ∃ (es : List PyData) (i : Nat) (d : PyData), x = .d (.int i) ∧ ms2[k]? = some (.l es) ∧ es[i]? = some d ∧ es.length ≤ 10000 ∧ R (.d d) (ms2.set k (.l (es.eraseIdx i)))) : E K (tBM K "list" rPopAt ta (tCons te tNil)) ds ms R := fun L M σ H hS hA Q q =>
  h L M σ H hS hA _ fun s v H1 ms1 w o ⟨k, e, h2⟩ => by
    subst e
    obtain ⟨a1, p, rfl, hp⟩ := o
    have hpL : p ∈ L := List.mem_of_getElem? hp
    have hk : k < ms1.length := by rw [← a1.ln]; exact (List.getElem?_eq_some_iff.mp hp).1
    · obtain ⟨xs0, e0⟩ := (a1.ok k p _ hp (List.getElem?_eq_getElem hk)).lst
      refine ⟨.inl ⟨rfl, xs0, SqL.of e0⟩, ?_⟩
      refine h2 L M σ H1 (hS.mono hA w) a1 _ fun x y H2 ms2 w2 o2 ⟨es, i, d, ex, em, hz, hl, r⟩ => ?_
      subst ex
      obtain ⟨a2, o⟩ := o2
      cases o
      obtain ⟨xs, e1, r1⟩ := a2.get hp em
      have hi := (List.getElem?_eq_some_iff.mp hz).1
      have ln := r1.length
      have er : ∀ (xs : List V) (es : List PyData), RpA M H2 xs es → ∀ i, RpA M H2 (xs.eraseIdx i) (es.eraseIdx i) := fun xs => by
        induction xs with
        | nil => intro es r i; cases r; exact .nil
        | cons x xs ih =>
          intro es r i
          cases r with
          | cons z y =>
            cases i with
            | zero => exact y
            | succ j => exact .cons z (ih _ y j)
      have hix : i < xs.length := by omega
      obtain ⟨d', f1, f2⟩ := r1.get' (List.getElem?_eq_getElem hix)
      rw [hz] at f1
      cases f1
      refine ⟨p, xs, i, i, xs[i], rfl, rfl, e1, by omega, by omega, ?_, List.getElem?_eq_getElem hix, ?_⟩
      · unfold seqIndex?
        rw [if_neg (show ¬ (i : Int) < 0 by omega)]
        simp [hix]
      · have tt : To M M H2 (upd H2 p (.lst (xs.eraseIdx i))) := fun b o nb q => ⟨nb, by rw [upd_ne (fun z : b = p => nb (by rw [z]; exact a2.sub p hpL))]; exact q⟩
        exact q (.d d) _ _ _ ((w.trans w2).trans (Wk.mut hpL)) ⟨a2.put hp (er _ _ r1 i), Rp.to tt _ _ f2⟩ r
end
end Hc

namespace Hc
open PySem PySem.Spec PyProof.Rows L2
/-! ### sorted(xs) of data -/
theorem vals_each : ∀ {bs : List (V × PyData)} {us : List Value}, Vals (bs.map Prod.fst) us → PySem.W.EachIs (fun (u : Value) (b : V × PyData) => RelV b.1 u) us bs
  | [], us, h => by cases h; exact .nil
  | b :: r, us, h => by
    cases h with
    | cons z y => exact .cons z (vals_each y)
theorem each_vals : ∀ {bs : List (V × PyData)} {us : List Value}, PySem.W.EachIs (fun (u : Value) (b : V × PyData) => RelV b.1 u) us bs → Vals (bs.map Prod.fst) us
  | [], us, h => by cases h; exact .nil
  | b :: r, us, h => by
    cases h with
    | cons z y => exact .cons z (each_vals y)
def rSortV (K : PySem.W.Frag) : List V → Hp → VK → Prop := fun vs H Q => ∃ (a : Addr) (bs : List (V × PyData)), vs = [.ref a] ∧ SqL K H a (bs.map Prod.fst) ∧ (∀ b ∈ bs, Dp K H b.1 b.2) ∧ PySem.W.AllAlike (bs.map Prod.snd) ∧ PySem.W.Sortable (bs.map Prod.snd) ∧
  (∀ b ∈ bs, b.2.depth ≤ 60) ∧ ∀ p, H p = none → Q (.ref p) (upd H p (.lst ((bs.mergeSort (PySem.W.dataLe false Prod.snd)).map Prod.fst)))
theorem cr_sortV {X : Cx} (hu : X.A.units + 64 < cLine) : CallR X (.builtin "sorted") (rSortV X.K) := by
  intro pins s σ H vs us Q I r h
  obtain ⟨a, bs, rfl, sq, hd, al, so, dp, q⟩ := h
  obtain ⟨its, rv, hl, hz⟩ := I.list sq
  rw [Vals.ref1 r]
  have e := vals_each rv
  have er : PySem.W.EachIs (fun (u : Value) (b : V × PyData) => ∃ as, Reads s.heap u b.2 as) its bs :=
    (PySem.W.each_mem e).mono fun u b ⟨z, m⟩ => Dp.reads I b.2 b.1 u (hd b m) z
  rw [List.length_map] at hz
  refine PySem.W.sorted_data hl.isList e er al so hz (fun b m => by have := dp b m; omega) fun out ln eo => ?_
  obtain ⟨ep, he⟩ := PyProof.Rows.sortedAll_at s.heap its out.toArray
  have lm : ((bs.mergeSort (PySem.W.dataLe false Prod.snd)).map Prod.fst).length ≤ sizeLine := by
    rw [List.length_map, List.length_mergeSort]
    exact hz
  exact ⟨.ref _, upd H (s.heap.objs.size + 1) (.lst ((bs.mergeSort (PySem.W.dataLe false Prod.snd)).map Prod.fst)), I.laid (t' := s.toks) (fun _ _ => PyProof.Rows.sortedAll_old) (Nat.le_succ _) ⟨lm, out, ep, each_vals eo, he⟩, rfl, q _ (I.hok.fresh (Nat.le_succ _))⟩
section
variable {K : PySem.W.Frag} {ds : List SD} {ms : List MD} {R : RS}
theorem zip_fst : ∀ {xs : List V} {es : List PyData}, xs.length = es.length → (List.zip xs es).map Prod.fst = xs
  | [], _, _ => rfl
  | _ :: _, [], h => by cases h
  | x :: xs, e :: es, h => by
    show x :: (List.zip xs es).map Prod.fst = _
    rw [zip_fst (by simpa using h)]
theorem zip_snd : ∀ {xs : List V} {es : List PyData}, xs.length = es.length → (List.zip xs es).map Prod.snd = es
  | [], [], _ => rfl
  | [], _ :: _, h => by cases h
  | _ :: _, [], h => by cases h
  | x :: xs, e :: es, h => by
    show e :: (List.zip xs es).map Prod.snd = _
    rw [zip_snd (by simpa using h)]
theorem rpa_zip {M : List Addr} {H : Hp} : ∀ {xs : List V} {es : List PyData}, RpA M H xs es → ∀ b ∈ List.zip xs es, Rp M H b.1 b.2
  | [], _, _, b, hb => by cases hb
  | x :: xs, es, h, b, hb => by
    cases h with
    | cons z y =>
      rcases List.mem_cons.mp hb with rfl | hb
      · exact z
      · exact rpa_zip y b hb
theorem rpa_of {M : List Addr} {H : Hp} : ∀ {bs : List (V × PyData)}, (∀ b ∈ bs, Rp M H b.1 b.2) → RpA M H (bs.map Prod.fst) (bs.map Prod.snd)
  | [], _ => .nil
  | b :: r, h => .cons (h b (by simp)) (rpa_of fun c hc => h c (by simp [hc]))
abbrev sortD (es : List PyData) : List PyData := es.mergeSort (PySem.W.dataLe false id)
theorem rc_sortD {as : List SD} (h : ∃ (s : SD) (es : List PyData), as = [s] ∧ Sv ms s (.list es) ∧ (∀ e ∈ es, Shp 60 e) ∧ PySem.W.AllAlike es ∧ PySem.W.Sortable es ∧ R (.f (sortD es)) ms) : RC K (rSortV K) as ms R := fun L M H vs hA ha Q q => by
  obtain ⟨s, es, rfl, sv, sh, al, so, r⟩ := h
  obtain ⟨v, t, rfl, hv, rfl⟩ := ha
  obtain ⟨p, xs, rfl, hq, hr⟩ := sv.lst hA hv
  have ln := hr.length
  have zr := rpa_zip hr
  have e2 : ((List.zip xs es).mergeSort (PySem.W.dataLe false Prod.snd)).map Prod.snd = sortD es := by
    have := PySem.W.sort_maps (r := PySem.W.dataLe false Prod.snd) (s := PySem.W.dataLe false id) (Prod.snd : V × PyData → PyData) (l := List.zip xs es) (fun a _ b _ => rfl)
    rw [this, zip_snd ln]
  refine ⟨p, List.zip xs es, rfl, by rw [zip_fst ln]; exact hq, fun b hb => ?_, by rw [zip_snd ln]; exact al, by rw [zip_snd ln]; exact so, fun b hb => ?_, fun l hl => ?_⟩
  · have m2 : b.2 ∈ es := by
      have : b.2 ∈ (List.zip xs es).map Prod.snd := List.mem_map.mpr ⟨b, hb, rfl⟩
      rwa [zip_snd ln] at this
    exact Rp.dp b.2 b.1 (sh _ m2).1 (zr b hb)
  · have m2 : b.2 ∈ es := by
      have : b.2 ∈ (List.zip xs es).map Prod.snd := List.mem_map.mpr ⟨b, hb, rfl⟩
      rwa [zip_snd ln] at this
    exact (sh _ m2).2
  · have rr : RpA M H (((List.zip xs es).mergeSort (PySem.W.dataLe false Prod.snd)).map Prod.fst) (sortD es) := by
      rw [← e2]
      exact rpa_of fun b hb => zr b (List.mem_mergeSort.mp hb)
    exact q (.f (sortD es)) _ _ ms (Wk.new hl) (out_new hA (Wk.refl L H) hl rr) r
end
end Hc

namespace Hc
open PySem PySem.Spec PyProof.Rows L2
section
variable {K : PySem.W.Frag} {te ta tb tc tl : TE} {tt : TT} {tA : TA} {ds : List SD} {ms : List MD} {R : RS} {t u : TS} {P : Po}
/-! ### in, over data -/
theorem rr_inD {a b : SD} (h : ∃ (x : PyData) (es : List PyData), Sv ms a x ∧ Sv ms b (.list es) ∧ SeqAt.shaped x = true ∧ SeqAt.shaped (.list es) = true ∧ R (.d (.bool (es.any fun z => PyData.eqv z x))) ms) : RR K (rInD K) a b ms R := fun L M H u v hA ha hb Q q => by
  obtain ⟨x, es, ea, eb, s1, s2, r⟩ := h
  exact ⟨x, es, ea.dp hA ha (SeqAt.canLay_of_shaped s1), eb.dp hA hb (SeqAt.canLay_of_shaped s2), s1, s2, q (.d _) _ H ms (Wk.refl L H) ⟨hA, .bl _⟩ r⟩
theorem rr_notInD {a b : SD} (h : ∃ (x : PyData) (es : List PyData), Sv ms a x ∧ Sv ms b (.list es) ∧ SeqAt.shaped x = true ∧ SeqAt.shaped (.list es) = true ∧ R (.d (.bool (!es.any fun z => PyData.eqv z x))) ms) : RR K (rNotInD K) a b ms R := fun L M H u v hA ha hb Q q => by
  obtain ⟨x, es, ea, eb, s1, s2, r⟩ := h
  exact ⟨x, es, ea.dp hA ha (SeqAt.canLay_of_shaped s1), eb.dp hA hb (SeqAt.canLay_of_shaped s2), s1, s2, q (.d _) _ H ms (Wk.refl L H) ⟨hA, .bl _⟩ r⟩
/-! ### for a, b in zip(xs, ys), two lists -/
theorem s_forZ {g : TG} {js : List Nat} (h : EA K tA ds ms fun as ms0 => ∃ (s1 s2 : SD) (es fs : List PyData), as = [s1, s2] ∧ Sw s1 es ∧ Sw s2 fs ∧ ∃ Pv : Nat → List SD → List MD → Prop, Pv 0 ds ms0 ∧
      (∀ i e f ds1 ms1, es[i]? = some e → fs[i]? = some f → Pv i ds1 ms1 → EG K g js (.d (.tuple [e, f])) ds1 ms1 fun ds2 ms2 => S K t ds2 ms2 { P with nx := Pv (i + 1), ct := Pv (i + 1), bk := P.nx }) ∧ ∀ ds1 ms1, Pv (min es.length fs.length) ds1 ms1 → P.nx ds1 ms1) :
    S K (tFor (iZip K tA) g t) ds ms P := fun L M σ H hS hA D n r b c =>
  h L M σ H hS hA _ fun as vs H1 ms0 w a1 o ⟨s1, s2, es, fs, ea, sw1, sw2, Pv, h0, hs, hd⟩ => by
    subst ea
    obtain ⟨v1, t1, rfl, hv1, v2, t2, rfl, hv2, rfl⟩ := o
    obtain ⟨a, xs, rfl, rx, hx⟩ := sw1.is a1 hv1
    obtain ⟨b', ys, rfl, ry, hy⟩ := sw2.is a1 hv2
    refine ⟨a, b', xs, ys, rfl, hx H1 (Wk.refl L H1), hy H1 (Wk.refl L H1), for_it (walk_zip rfl) (fun i σ' H' => ∃ ds' ms', Wk L H1 H' ∧ Sl K L M σ' H' ds' ∧ At L M ms' H' ∧ Pv i ds' ms') ⟨ds, ms0, Wk.refl L H1, hS.mono hA w, a1, h0⟩ (fun i σ' H' _ ⟨_, _, w', _⟩ => ⟨hx H' w', hy H' w'⟩) (fun i x σ' H' H2 hi ⟨ds', ms', w', s', a', p'⟩ y => ?_) (fun σ' H' ⟨ds', ms', w', s', a', p'⟩ => ?_)⟩
    · obtain ⟨N, x1, y1, rfl, hN, rfl, q1, q2⟩ := y
      obtain ⟨e, e1, e2⟩ := rx.get' q1
      obtain ⟨f, f1, f2⟩ := ry.get' q2
      have w2 : Wk L H' (upd H' N (.tup [x1, y1])) := Wk.new hN
      have a2 := a'.new (o := .tup [x1, y1]) hN
      have w3 := w'.trans w2
      refine hs i e f ds' ms' e1 f1 p' L M σ' _ (.ref N) (s'.mono a' w2) a2 (Rp.tup (a'.fresh hN) upd_same (.cons (Rp.to (a1.wk w3) _ _ e2) (.cons (Rp.to (a1.wk w3) _ _ f2) .nil))) _ fun σ2 ds2 s2 _ h2 => ?_
      exact h2 L M σ2 _ s2 a2 _ (fun σ3 H3 ds3 ms3 w4 s3 a3 p3 => ⟨ds3, ms3, w3.trans w4, s3, a3, p3⟩) (r.on a2 (w.trans w3)) (n.on (w.trans w3)) (fun σ3 H3 ds3 ms3 w4 s3 a3 p3 => ⟨ds3, ms3, w3.trans w4, s3, a3, p3⟩)
    · rw [rx.length, ry.length] at p'
      exact n σ' H' ds' ms' (w.trans w') s' a' (hd ds' ms' p')
/-! ### xs.insert(i, e) -/
abbrev rIns : V → List V → Hp → VK → Prop := fun x vs H Q => ∃ (l : Addr) (xs : List V) (i : Int) (y : V), x = .ref l ∧ vs = [.int i, y] ∧ H l = some (.lst xs) ∧ xs.length < sizeLine ∧ 0 ≤ i ∧ i < 2 ^ 63 ∧ Q .non (upd H l (.lst (xs.take i.toNat ++ [y] ++ xs.drop i.toNat)))
theorem e_insert (h : E K ta ds ms fun s ms1 => ∃ k, s = .m k ∧ EA K tA ds ms1 fun as ms2 => ∃ (i : Nat) (d : PyData) (es : List PyData), as = [.d (.int i), .d d] ∧ ms2[k]? = some (.l es) ∧ i ≤ 10000 ∧ es.length < 10000 ∧ R (.d .none) (ms2.set k (.l (es.take i ++ [d] ++ es.drop i)))) : E K (tBM K "list" rIns ta tA) ds ms R := fun L M σ H hS hA Q q =>
  h L M σ H hS hA _ fun s v H1 ms1 w o ⟨k, e, h2⟩ => by
    subst e
    obtain ⟨a1, p, rfl, hp⟩ := o
    have hpL : p ∈ L := List.mem_of_getElem? hp
    have hk : k < ms1.length := by rw [← a1.ln]; exact (List.getElem?_eq_some_iff.mp hp).1
    · obtain ⟨xs0, e0⟩ := (a1.ok k p _ hp (List.getElem?_eq_getElem hk)).lst
      refine ⟨.inl ⟨rfl, xs0, SqL.of e0⟩, ?_⟩
      refine h2 L M σ H1 (hS.mono hA w) a1 _ fun as us H2 ms2 w2 a2 o2 ⟨i, d, es, ex, em, hi, hl, r⟩ => ?_
      subst ex
      obtain ⟨v1, t1, rfl, hv1, v2, t2, rfl, hv2, rfl⟩ := o2
      have hv1' : Rp M H2 v1 (.int i) := hv1
      cases hv1'
      have hv2' : Rp M H2 v2 d := hv2
      obtain ⟨xs, e1, r1⟩ := a2.get hp em
      have ln := r1.length
      have tk : ∀ (xs : List V) (es : List PyData), RpA M H2 xs es → ∀ i, RpA M H2 (xs.take i ++ [v2] ++ xs.drop i) (es.take i ++ [d] ++ es.drop i) := fun xs => by
        induction xs with
        | nil => intro es r i; cases r; simp; exact .cons hv2' .nil
        | cons x xs ih =>
          intro es r i
          cases r with
          | cons z y =>
            cases i with
            | zero => exact .cons hv2' (.cons z y)
            | succ j => exact .cons z (ih _ y j)
      refine ⟨p, xs, i, v2, rfl, rfl, e1, by rw [ln]; exact Nat.lt_trans hl (by decide), by omega, by omega, ?_⟩
      exact q (.d .none) _ _ _ ((w.trans w2).trans (Wk.mut hpL)) ⟨a2.put hp (tk _ _ r1 i), .non⟩ r
/-! ### a part of a list, or of a tuple that may be the whole -/
def rSlQ (K : PySem.W.Frag) : V → Option Int → Option Int → Hp → VK → Prop := fun x lo hi H Q => rSlL K x lo hi H Q ∨ rSlA K x lo hi H Q
theorem sl_rowQ {X : Cx} : SlR X (rSlQ X.K) := fun pins s σ H x v vl vu lo hi sl Q I rx i1 i2 i3 h => by
  rcases h with h | h
  · exact sl_list pins s σ H x v vl vu lo hi sl Q I rx i1 i2 i3 h
  · exact sl_tupA pins s σ H x v vl vu lo hi sl Q I rx i1 i2 i3 h
theorem upd_upd (H : Hp) (p : Addr) (a b : HO) : upd (upd H p a) p b = upd H p b := funext fun c => by
  by_cases e : c = p
  · subst e; rw [upd_same, upd_same]
  · rw [upd_ne e, upd_ne e, upd_ne e]
theorem e_dispC {k v : Int} (h : ∀ kvs, R (.d (.dict kvs)) ms) : E K (tDisp [(tC (.int k), tC (.int v))]) ds ms R := fun L M σ H hS hA Q q p hp => by
  refine ⟨upd_same, [(.inl k, .int v)], rfl, Nat.le_of_ble_eq_true rfl, ?_⟩
  rw [upd_upd]
  exact q (.d (.dict [])) _ _ ms (Wk.new hp) ⟨hA.new hp, .dct (hA.fresh hp) upd_same⟩ (h [])
theorem units65 {k : Nat} {A : Around} (h : Room k A) : A.units + 65 < cLine := by
  have := h.un
  omega
theorem pe_callD0 {X : Cx} {x : Str} {lv : Nat} {ps : List Str} {Φ : Ph} {p pos : Pos} (h : Kn X.prog X.w X.K X.mg X.base x lv ps Φ) (hr : Room lv X.A) (hg : Gl X x) (hdb : (x == ("__debug__" : Str)) = false := by decide) :
    PE X (.Call (.Name x p) [] [] pos) (tCall (SpD X.K Φ) [] E0 tNil) := by
  obtain ⟨f, fd, G, m, k, b⟩ := h.ex
  exact pe_call0 G hr hg m k b .nil pass0 hdb
theorem pe_num {X : Cx} {x : Str} {n : Int} {pos : Pos} (hg : Gl X x) (h : ∃ t, X.mg x = some (.int n t)) (hdb : (x == ("__debug__" : Str)) = false := by decide) : PE X (.Name x pos) (tC (.int n)) := by
  obtain ⟨t, m⟩ := h
  exact pe_glob hg m ⟨_, rfl⟩ hdb
/-! ### a, b = t of a list or a tuple -/
def gRw (K : PySem.W.Frag) (n : Nat) (gs : TGs) : TG := fun v σ H C => gTup K n gs v σ H C ∨ gUnl K n gs v σ H C
theorem pg_rw {X : Cx} {pos : Pos} {es : List Expr} {k : Nat} {gs : TGs} {n : Nat} (hc : X.calm = true) (h : PGs X es gs) (h1 : (assignEach es X.env).length = n := by rfl) (h2 : List.findIdx? (fun x => x.fst) (assignEach es X.env) = none := by rfl) :
    PG X (.Tuple es k pos) (gRw X.K n gs) := ⟨fun pins s σ H v u Q I rv z => by
  rcases z with z | z
  · exact (pg_tup hc h h1 h2).run pins s σ H v u Q I rv z
  · exact (pg_unl hc h h1 h2).run pins s σ H v u Q I rv z⟩
theorem eg_rw {gs : TGs} {js : List Nat} {n : Nat} {x : PyData} {xs : List PyData} {N : List SD → List MD → Prop} (hx : x = .list xs ∨ x = .tuple xs) (hn : xs.length = n) (h : EGs K gs js xs ds ms N) : EG K (gRw K n gs) js (.d x) ds ms N := fun L M σ H v hS hA ho C c => by
  rcases hx with rfl | rfl
  · obtain ⟨a, ys, rfl, e, r⟩ := Sv.lst (ms := ms) (K := K) (L := L) (.d (.list xs)) hA ho
    exact .inr ⟨a, ys, rfl, e, by rw [r.length]; exact hn, h L M σ H ys hS hA r C c⟩
  · exact .inl (eg_tup hn h L M σ H v hS hA ho C c)
/-- t[:] of a list is a new one, of a tuple the same -/
theorem e_slQ (h : E K te ds ms fun s ms1 => ∃ (x : PyData) (xs : List PyData), s = .d x ∧ ((x = .list xs ∧ R (.f xs) ms1) ∨ (x = .tuple xs ∧ R (.d x) ms1))) : E K (tSl (rSlQ K) te tNoPart tNoPart) ds ms R := fun L M σ H hS hA Q q =>
  h L M σ H hS hA _ fun s v H1 ms1 w1 o1 ⟨x, xs, e, hh⟩ => by
    subst e
    obtain ⟨a1, o⟩ := o1
    rcases hh with ⟨rfl, r⟩ | ⟨rfl, r⟩
    · obtain ⟨p, ys, rfl, hq, hr⟩ := Sv.lst (ms := ms1) (K := K) (L := L) (.d (.list xs)) a1 o
      have cu : cutD xs none none = xs := by
        unfold cutD
        rw [HT.sIx_none, HT.sIx_none]
        simp
      refine .inl ⟨p, ys, rfl, hq, fun l hl => ?_⟩
      have rr := cut_of hr none none
      rw [cu] at rr
      exact q (.f xs) _ _ ms1 (w1.trans (Wk.new hl)) (out_new a1 w1 hl rr) r
    · obtain ⟨p, ys, rfl, e1, hr⟩ := Sv.tup (ms := ms1) (K := K) (L := L) (.d (.tuple xs)) o
      refine .inr ⟨p, ys, rfl, SqT.of e1, fun _ => q (.d (.tuple xs)) _ H1 ms1 w1 ⟨a1, o⟩ r, fun z => absurd ⟨HT.sIx_none .., HT.sIx_none ..⟩ z⟩
/-- for a, b in zip(xs, ys), whose body may raise -/
theorem sx_forZ {C : Addr} {Y : List MD → Prop} {g : TG} {js : List Nat} {t : XK → TS} (h : EA K tA ds ms fun as ms0 => ∃ (s1 s2 : SD) (es fs : List PyData), as = [s1, s2] ∧ Sw s1 es ∧ Sw s2 fs ∧ ∃ Pv : Nat → List SD → List MD → Prop, Pv 0 ds ms0 ∧
      (∀ i e f ds1 ms1, es[i]? = some e → fs[i]? = some f → Pv i ds1 ms1 → EG K g js (.d (.tuple [e, f])) ds1 ms1 fun ds2 ms2 => SX K C t ds2 ms2 { P with nx := Pv (i + 1), ct := Pv (i + 1), bk := P.nx } Y) ∧ ∀ ds1 ms1, Pv (min es.length fs.length) ds1 ms1 → P.nx ds1 ms1) :
    SX K C (fun X => tFor (iZip K tA) g (t X)) ds ms P Y := fun L M σ H hS hA D X n r b c xx =>
  h L M σ H hS hA _ fun as vs H1 ms0 w a1 o ⟨s1, s2, es, fs, ea, sw1, sw2, Pv, h0, hs, hd⟩ => by
    subst ea
    obtain ⟨v1, t1, rfl, hv1, v2, t2, rfl, hv2, rfl⟩ := o
    obtain ⟨a, xs, rfl, rx, hx⟩ := sw1.is a1 hv1
    obtain ⟨b', ys, rfl, ry, hy⟩ := sw2.is a1 hv2
    refine ⟨a, b', xs, ys, rfl, hx H1 (Wk.refl L H1), hy H1 (Wk.refl L H1), for_it (walk_zip rfl) (fun i σ' H' => ∃ ds' ms', Wk L H1 H' ∧ Sl K L M σ' H' ds' ∧ At L M ms' H' ∧ Pv i ds' ms') ⟨ds, ms0, Wk.refl L H1, hS.mono hA w, a1, h0⟩ (fun i σ' H' _ ⟨_, _, w', _⟩ => ⟨hx H' w', hy H' w'⟩) (fun i x σ' H' H2 hi ⟨ds', ms', w', s', a', p'⟩ y => ?_) (fun σ' H' ⟨ds', ms', w', s', a', p'⟩ => ?_)⟩
    · obtain ⟨N, x1, y1, rfl, hN, rfl, q1, q2⟩ := y
      obtain ⟨e, e1, e2⟩ := rx.get' q1
      obtain ⟨f, f1, f2⟩ := ry.get' q2
      have w2 : Wk L H' (upd H' N (.tup [x1, y1])) := Wk.new hN
      have a2 := a'.new (o := .tup [x1, y1]) hN
      have w3 := w'.trans w2
      refine hs i e f ds' ms' e1 f1 p' L M σ' _ (.ref N) (s'.mono a' w2) a2 (Rp.tup (a'.fresh hN) upd_same (.cons (Rp.to (a1.wk w3) _ _ e2) (.cons (Rp.to (a1.wk w3) _ _ f2) .nil))) _ fun σ2 ds2 s2 _ h2 => ?_
      exact h2 L M σ2 _ s2 a2 _ X (fun σ3 H3 ds3 ms3 w4 s3 a3 p3 => ⟨ds3, ms3, w3.trans w4, s3, a3, p3⟩) (r.on a2 (w.trans w3)) (n.on (w.trans w3)) (fun σ3 H3 ds3 ms3 w4 s3 a3 p3 => ⟨ds3, ms3, w3.trans w4, s3, a3, p3⟩) (xx.on (w.trans w3))
    · rw [rx.length, ry.length] at p'
      exact n σ' H' ds' ms' (w.trans w') s' a' (hd ds' ms' p')
end
end Hc

namespace Hc
open PySem PySem.Spec PyProof.Rows L2
/-! ### xs[::2], xs[1::2] -/
def ev2 {α : Type} : List α → List α
  | [] => []
  | [a] => [a]
  | a :: _ :: r => a :: ev2 r
theorem ev2_len {α : Type} : ∀ l : List α, (ev2 l).length = (l.length + 1) / 2
  | [] => by simp [ev2]
  | [a] => by simp [ev2]
  | a :: b :: r => by simp only [ev2, List.length_cons, ev2_len r]; omega
theorem ev2_range {α : Type} : ∀ l : List α, (List.range ((l.length + 1) / 2)).filterMap (fun k => l[2 * k]?) = ev2 l
  | [] => by simp [ev2]
  | [a] => by simp [ev2, List.range_succ]
  | a :: b :: r => by
    have e : ((a :: b :: r).length + 1) / 2 = (r.length + 1) / 2 + 1 := by simp only [List.length_cons]; omega
    rw [e, List.range_succ_eq_map, List.filterMap_cons]
    rw [ev2, ← ev2_range r, List.filterMap_map]
    rfl
/-- what a part with these three marks picks -/
def pk {α : Type} (l : List α) (lo hi st : Option Int) : List α := (sliceRange (sliceBounds lo hi st l.length).1 (sliceBounds lo hi st l.length).2.1 (sliceBounds lo hi st l.length).2.2).filterMap fun k => l[k]?
theorem pk_arr (us : List Value) (lo hi st : Option Int) : slicePick us.toArray lo hi st = (pk us lo hi st).toArray := by
  unfold slicePick pk
  simp only [List.size_toArray, List.getElem?_toArray]
theorem fm_congr {α : Type} (f g : Nat → Option α) : ∀ l : List Nat, (∀ k ∈ l, f k = g k) → l.filterMap f = l.filterMap g
  | [], _ => rfl
  | a :: r, h => by rw [List.filterMap_cons, List.filterMap_cons, h a (by simp), fm_congr f g r fun k hk => h k (by simp [hk])]
theorem pk_step {α : Type} (l : List α) (j : Nat) (hj : j ≤ 1) : pk l (if j = 0 then none else some (j : Int)) none (some 2) = ev2 (l.drop j) := by
  have hb : sliceBounds (if j = 0 then none else some (j : Int)) none (some 2) l.length = (((min j l.length : Nat) : Int), (l.length : Int), (2 : Int)) := by
    unfold sliceBounds
    by_cases h : j = 0
    · subst h; simp
    · have : j = 1 := by omega
      subst this
      simp
      omega
  unfold pk
  rw [hb]
  have hl : (l.drop j).length = l.length - j := by simp
  rw [← ev2_range, hl]
  have hc : sliceRange ((min j l.length : Nat) : Int) (l.length : Int) 2 = (List.range ((l.length - j + 1) / 2)).map fun k => min j l.length + 2 * k := by
    unfold sliceRange
    have e1 : (if (2 : Int) > 0 then (if ((min j l.length : Nat) : Int) < (l.length : Int) then ((l.length : Int) - ((min j l.length : Nat) : Int) + 2 - 1) / 2 else 0) else (if ((min j l.length : Nat) : Int) > (l.length : Int) then (((min j l.length : Nat) : Int) - (l.length : Int) - 2 - 1) / (-2) else 0)).toNat = (l.length - j + 1) / 2 := by
      rw [if_pos (by decide)]
      split <;> omega
    show (List.range _).map _ = _
    rw [e1]
    apply List.map_congr_left
    intro k _
    omega
  show (sliceRange ((min j l.length : Nat) : Int) (l.length : Int) 2).filterMap _ = _
  rw [hc, List.filterMap_map]
  refine fm_congr _ _ _ fun k hk => ?_
  have hk2 := List.mem_range.mp hk
  have hm : min j l.length = j := by omega
  show l[min j l.length + 2 * k]? = (l.drop j)[2 * k]?
  rw [hm, List.getElem?_drop]
theorem vals_pick {xs : List V} {us : List Value} (r : Vals xs us) : ∀ ks : List Nat, Vals (ks.filterMap fun k => xs[k]?) (ks.filterMap fun k => us[k]?)
  | [] => .nil
  | k :: t => by
    have ih := vals_pick r t
    have hl := r.length
    cases e : xs[k]? with
    | none =>
      have e2 : us[k]? = none := by
        rw [List.getElem?_eq_none_iff] at e ⊢
        omega
      rw [List.filterMap_cons, List.filterMap_cons, e, e2]
      exact ih
    | some x =>
      obtain ⟨u, e2, ru⟩ := r.get e
      rw [List.filterMap_cons, List.filterMap_cons, e, e2]
      exact .cons ru ih
/-- an expression, asked for less -/
theorem pe_weak {X : Cx} {e : Expr} {te : TE} (he : PE X e te) : PE X e fun σ H Q => ∃ R : VK, te σ H R ∧ ∀ x H1, R x H1 → Q x H1 := by
  constructor
  rintro pins s σ H Q I ⟨R, h, m⟩
  refine thn (he.run pins s σ H R I h) ?_
  rintro v s1 ⟨x, H1, I1, rx, r1⟩
  exact ⟨x, H1, I1, rx, m x H1 r1⟩
/-- xs[a:b:c] of a list, whatever the three are -/
def tSl3 (K : PySem.W.Frag) (te : TE) (tl tu tc : TO) : TE := fun σ H Q => te σ H fun x H1 => tl σ H1 fun lo H2 => tu σ H2 fun hi H3 => tc σ H3 fun st H4 =>
  ∃ a xs, x = .ref a ∧ st ≠ some 0 ∧ SqL K H4 a xs ∧ (xs.length ≤ sizeLine → (pk xs lo hi st).length ≤ sizeLine) ∧ ∀ p, H4 p = none → Q (.ref p) (upd H4 p (.lst (pk xs lo hi st)))
theorem pe_slL3 {X : Cx} {e : Expr} {te : TE} {lo hi : Option Expr} {ce : Expr} {tl tu tc : TO} {p3 pos : Pos} (he : PE X e te) (hl : PO X lo tl) (hu : PO X hi tu) (hc : PO X (some ce) tc) : PE X (.Subscript e (.Slice lo hi (some ce) p3) pos) (tSl3 X.K te tl tu tc) := by
  constructor
  intro pins s0 σ H0 Q I0 h0
  refine Subscript_ (thn (he.run pins s0 σ H0 _ I0 h0) ?_)
  rintro v s1 ⟨x, H1, I1, rx, h1⟩
  refine wpAny_Slice (thn (hl.run pins s1 σ H1 _ I1 h1) ?_)
  rintro vl s2 ⟨ol, H2, I2, il, h2⟩
  refine thn (hu.run pins s2 σ H2 _ I2 h2) ?_
  rintro vu s3 ⟨ou, H3, I3, iu, h3⟩
  refine thn (hc.run pins s3 σ H3 _ I3 h3) ?_
  rintro vc s4 ⟨oc, H4, I4, ic, a, xs, ex, nz, sq, zp, q⟩
  subst ex
  cases rx
  have kp : ∀ b u, s4.heap.get? b = some u → (s4.heap.push { cls := .type "slice", data := .fields #[vl, vu, vc] }).get? b = some u := fun b u z => Heap.get?_push_of_some _ z
  have I5 := I4.kept (t' := s4.toks) kp
  obtain ⟨its, rv, lst, zl⟩ := I5.list sq
  have ln := rv.length
  refine tail_any (ops := [.ref a, .ref s4.heap.objs.size]) lst.isList.typeIs PySem.slot_list_getitem.lookup ?_ (by with_unfolding_all rfl)
  refine wpAny_getItem_list_slice (st := oc) lst.isList (Heap.IsSliceOf.new _ vl vu vc) il iu ic nz ?_ (by simp only [List.size_toArray]; omega)
  rw [pk_arr]
  have rp : Vals (pk xs ol ou oc) (pk its ol ou oc) := by
    unfold pk
    rw [ln]
    exact vals_pick rv _
  have new := I5.laid (t' := s4.toks) (a := (s4.heap.push { cls := .type "slice", data := .fields #[vl, vu, vc] }).objs.size) (o := .lst (pk xs ol ou oc)) (fun b u z => Heap.get?_push_of_some _ z) (Nat.le_refl _) ⟨zp zl, _, 0, rp, Heap.get?_push_size _ rfl⟩
  exact ⟨.ref _, _, new, rfl, q _ (I5.hok.fresh (Nat.le_refl _))⟩
def tStep (K : PySem.W.Frag) (j : Nat) (te : TE) : TE := fun σ H Q => te σ H fun x H1 => ∃ a xs, x = .ref a ∧ SqL K H1 a xs ∧ ∀ p, H1 p = none → Q (.ref p) (upd H1 p (.lst (ev2 (xs.drop j))))
theorem step_len (xs : List V) (j : Nat) (h : xs.length ≤ sizeLine) : (ev2 (xs.drop j)).length ≤ sizeLine := by
  rw [ev2_len, List.length_drop]
  omega
theorem pe_step0 {X : Cx} {e : Expr} {te : TE} {k : Nat} {p1 p3 pos : Pos} (he : PE X e te) : PE X (.Subscript e (.Slice none none (some (.Constant (.int 2) k p1)) p3) pos) (tStep X.K 0 te) := by
  constructor
  intro pins s σ H Q I h
  refine (pe_slL3 (pe_weak he) po_none po_none (po_some (pe_int (i := 2)))).run pins s σ H Q I ⟨_, h, ?_⟩
  rintro x H1 ⟨a, xs, ex, sq, q⟩
  have e0 : pk xs none none (some 2) = ev2 (xs.drop 0) := pk_step xs 0 (by decide)
  exact ⟨2, rfl, a, xs, ex, by decide, sq, by rw [e0]; exact step_len xs 0, by rw [e0]; exact q⟩
theorem pe_step1 {X : Cx} {e : Expr} {te : TE} {k k0 : Nat} {p0 p1 p3 pos : Pos} (he : PE X e te) : PE X (.Subscript e (.Slice (some (.Constant (.int 1) k0 p0)) none (some (.Constant (.int 2) k p1)) p3) pos) (tStep X.K 1 te) := by
  constructor
  intro pins s σ H Q I h
  refine (pe_slL3 (pe_weak he) (po_some (pe_int (i := 1))) po_none (po_some (pe_int (i := 2)))).run pins s σ H Q I ⟨_, h, ?_⟩
  rintro x H1 ⟨a, xs, ex, sq, q⟩
  have e0 : pk xs (some 1) none (some 2) = ev2 (xs.drop 1) := pk_step xs 1 (by decide)
  exact ⟨1, rfl, 2, rfl, a, xs, ex, by decide, sq, by rw [e0]; exact step_len xs 1, by rw [e0]; exact q⟩
section
variable {K : PySem.W.Frag} {te ta tb tc tl : TE} {tt : TT} {tA : TA} {ds : List SD} {ms : List MD} {R : RS} {t u : TS} {P : Po}
theorem RpA.ev2 {M : List Addr} {H : Hp} : ∀ {xs : List V} {es : List PyData}, RpA M H xs es → RpA M H (ev2 xs) (ev2 es)
  | _, _, .nil => .nil
  | _, _, .cons a .nil => .cons a .nil
  | _, _, .cons a (.cons _ r) => .cons a (RpA.ev2 r)
theorem e_step {j : Nat} (h : E K ta ds ms fun s ms1 => ∃ es, Sv ms1 (dd s) (.list es) ∧ R (.f (Hc.ev2 (es.drop j))) ms1) : E K (tStep K j ta) ds ms R := fun L M σ H hS hA Q q =>
  h L M σ H hS hA _ fun s v H1 ms1 w o ⟨es, sv, r⟩ => by
    have a1 := o.at
    obtain ⟨p, xs, rfl, hq, hr⟩ := sv.lst a1 o.sl
    exact ⟨p, xs, rfl, hq, fun l hl => q (.f (Hc.ev2 (es.drop j))) _ _ ms1 (w.trans (Wk.new hl)) (out_new a1 w hl (hr.drop j).ev2) r⟩
/-! ### a list or a tuple as a test -/
def tTru (K : PySem.W.Frag) (te : TE) : TT := fun σ H Q => te σ H fun x H' => ∃ k, TruV K x H' k ∧ Q k H'
theorem pt_tru {X : Cx} {a : Expr} (ha : PE X a ta) (he : ∀ whole, isTrue a X.env whole = (do let v ← whole; standAt a.pos; holding [v] (truthy v)) := by intro _; rfl) : PT X a (tTru X.K ta) := pt_truth ha he
theorem et_tru {RB : Bool → List MD → Prop} (h : E K te ds ms fun s ms1 => ∃ es : List PyData, (Sv ms1 (dd s) (.list es) ∨ Sv ms1 (dd s) (.tuple es)) ∧ RB (!es.isEmpty) ms1) : ET K (tTru K te) ds ms RB := fun L M σ H hS hA Q q =>
  h L M σ H hS hA _ fun s v H1 ms1 w o ⟨es, sv, r⟩ => by
    have a1 := o.at
    have em : ∀ {xs : List V}, RpA M H1 xs es → xs.isEmpty = es.isEmpty := fun {xs} h => by
      cases h <;> rfl
    rcases sv with sv | sv
    · obtain ⟨p, xs, rfl, hq, hr⟩ := sv.lst a1 o.sl
      exact ⟨_, .inl ⟨xs, hq, rfl⟩, by rw [em hr]; exact q _ H1 ms1 w a1 r⟩
    · obtain ⟨p, xs, rfl, hq, hr⟩ := sv.tup o.sl
      exact ⟨_, .inr (.inl ⟨xs, SqT.of hq, rfl⟩), by rw [em hr]; exact q _ H1 ms1 w a1 r⟩
/-- over zip(xs, ys) of two lists -/
theorem e_lcZL {g : TG} {js vs : List Nat} (hj : ∀ j ∈ js, j ∈ vs) (h : EA K tA ds ms fun as ms0 => ∃ (s1 s2 : SD) (es fs : List PyData), as = [s1, s2] ∧ Sw s1 es ∧ Sw s2 fs ∧ es.length ≤ 10000 ∧ ∃ Pv : Nat → List PyData → List MD → Prop, Pv 0 [] ms0 ∧
      (∀ i e f acc ms1, es[i]? = some e → fs[i]? = some f → Pv i acc ms1 → Lt K g js tt te vs ds (.d (.tuple [e, f])) ms1 acc (Pv (i + 1))) ∧ ∀ acc ms1, Pv (min es.length fs.length) acc ms1 → R (.f acc) ms1) :
    E K (tLc (RZ.iZipA K tA) g tt te vs) ds ms R := fun L M σ H hS hA Q q =>
  h L M σ H hS hA _ fun as us H1 ms0 w a1 o ⟨s1, s2, es, fs, ea, sw1, sw2, hz, Pv, h0, hs, hd⟩ => by
    subst ea
    obtain ⟨v1, t1, rfl, o1, v2, t2, rfl, o2, rfl⟩ := o
    obtain ⟨a, xs, rfl, rx, hx⟩ := sw1.is a1 o1
    obtain ⟨b, ys, rfl, ry, hy⟩ := sw2.is a1 o2
    refine ⟨a, b, xs, ys, rfl, .inl ⟨hx H1 (Wk.refl L H1), hy H1 (Wk.refl L H1), fun D hD => ?_⟩⟩
    have hDL := a1.freshL hD
    refine ⟨fun i m H' => m = min es.length fs.length - i ∧ i ≤ min es.length fs.length ∧ ∃ acc ms', Cs L M H1 D i acc ms' H' ∧ Pv i acc ms', ⟨_, rfl, Nat.zero_le _, [], ms0, .start a1 hD, h0⟩, ?_⟩
    rintro i m H' ⟨rfl, hi, acc, ms', c, p⟩
    have qx := hx H' c.w
    have qy := hy H' c.w
    by_cases hlt : i < min es.length fs.length
    · have l1 : i < xs.length := by rw [rx.length]; omega
      have l2 : i < ys.length := by rw [ry.length]; omega
      refine .inr ⟨⟨xs, ys, xs[i], ys[i], qx, qy, by simp [l1], by simp [l2]⟩, fun H2 => ∃ acc' ms2, Cs L M H1 D (i + 1) acc' ms2 H2 ∧ Pv (i + 1) acc' ms2, fun H2 ⟨acc', ms2, c2, p2⟩ => ⟨min es.length fs.length - (i + 1), by omega, rfl, hlt, acc', ms2, c2, p2⟩, fun v H2 y => ?_⟩
      obtain ⟨T, x, y, rfl, hT, rfl, fx, fy⟩ := y
      obtain ⟨e, e1, e2⟩ := rx.get' (fx xs qx)
      obtain ⟨f, f1, f2⟩ := ry.get' (fy ys qy)
      have c2 := c.new (o := .tup [x, y]) hT
      have tt2 : To M (M ++ [D]) H1 (upd H' T (.tup [x, y])) := to_new a1 hD c2.w
      have ho : SlOk K L (M ++ [D]) (upd H' T (.tup [x, y])) (.d (.tuple [e, f])) (.ref T) := Rp.tup (c.a.fresh hT) upd_same (.cons (Rp.to tt2 _ _ e2) (.cons (Rp.to tt2 _ _ f2) .nil))
      exact lc_turn2 (x := .d (.tuple [e, f])) (v := .ref T) (Nn := Pv) hj (by omega) (hS.mono hA w) a1 hD c2 ho (hs i e f acc ms' e1 f1 p)
    · have e : i = min es.length fs.length := by omega
      subst e
      refine .inl ⟨⟨xs, ys, qx, qy, by rw [rx.length, ry.length]; omega⟩, ?_⟩
      exact q (.f acc) _ H' ms' (w.trans c.w) ⟨D, rfl, none_back a1 w (a1.fresh hD) hD, a1.fresh hD, c.done a1.sub hDL, a1.sub⟩ (hd acc ms' p)
end
end Hc

namespace Hc
open PySem PySem.Spec PyProof.Rows L2
section
variable {K : PySem.W.Frag} {te ta tb tc tl : TE} {tt : TT} {tA tB : TA} {ds : List SD} {ms : List MD} {R : RS} {t u : TS} {P : Po}
/-- the first two together -/
theorem s_assoc {v : TS} (h : S K (tSeq (tSeq t u) v) ds ms P) : S K (tSeq t (tSeq u v)) ds ms P := h
/-- a call whose first argument is a new list, that the call may change -/
theorem e_callF {Φ : Ph} (h : E K ta ds ms fun s ms1 => ∃ es, s = .f es ∧ EA K tB ds (ms1 ++ [.l es]) fun as ms2 => Φ (.m ms1.length :: as) ms2 fun s2 ms3 => ∃ ms4 es', ms3 = ms4 ++ [.l es'] ∧ ms4.length = ms1.length ∧ R (frzR ms1.length es' s2) ms4) :
    E K (tCall (SpD K Φ) [] E0 (tCons ta tB)) ds ms R := fun L M σ H hS hA Q q =>
  h L M σ H hS hA _ fun s v H1 ms1 w o ⟨es, e, h1⟩ => by
    subst e
    obtain ⟨p, rfl, hp, np, a1, sb⟩ := o
    have hl : L.length = ms1.length := by have := a1.ln; simp at this; exact this
    have t : To M (M ++ [p]) H H1 := to_new hA hp w
    have hS1 : Sl K (L ++ [p]) (M ++ [p]) σ H1 ds := by
      refine hS.to t fun k q e => ?_
      rw [List.getElem?_append_left (List.getElem?_eq_some_iff.mp e).1]
      exact e
    have wk : ∀ {H2 : Hp}, Wk (L ++ [p]) H1 H2 → Wk L H H2 := fun {H2} w2 x y nx ex => w2 x y (fun z => (List.mem_append.mp z).elim nx fun z => ne_of_none ex hp (by simpa using z)) (w x y nx ex)
    refine h1 (L ++ [p]) (M ++ [p]) σ H1 hS1 a1 _ fun as vs H2 ms2 w2 a2 o2 h2 => ?_
    show SpD K Φ ((.ref p :: vs) ++ []) H2 Q E0
    rw [List.append_nil]
    refine ⟨L ++ [p], M ++ [p], ms2, .m ms1.length :: as, _, a2, ⟨.ref p, vs, rfl, ⟨p, rfl, by rw [← hl]; simp⟩, o2⟩, h2, fun s3 v3 H3 ms3 w3 o3 ⟨ms4, es', e4, l4, r⟩ => ?_⟩
    subst e4
    rw [← l4] at r
    have w13 := w2.trans w3
    refine q _ v3 H3 ms4 (wk w13) ?_ r
    refine Out.frz hp o3.at (fun q hq hqp hq1 => ?_) np sb o3
    cases e : H q with
    | none => rfl
    | some oo =>
      have hqL : q ∉ L ++ [p] := fun z => (List.mem_append.mp z).elim (fun z => hq (hA.sub q z)) fun z => hqp (by simpa using z)
      rw [w2 q oo hqL (w q oo (fun z => hq (hA.sub q z)) e)] at hq1
      cases hq1
end
/-! ### sorted rows -/
theorem totalD : PySem.W.TotalLe (PySem.W.dataLe false (id : PyData → PyData)) := PySem.W.sortLe_total _ _ _
theorem sort_strict {m l : List PyData} (hm : m.Pairwise fun a b => PySem.W.dataLe false id a b = true ∧ PySem.W.dataLe false id b a = false) (hp : l.Perm m) : sortD l = m := by
  refine (PySem.W.sort_unique totalD (hm.imp fun h => h.1) fun c => ?_).symm
  have p2 := hp.filter (PySem.W.sameRank (PySem.W.dataLe false id) c)
  have pw : (m.filter (PySem.W.sameRank (PySem.W.dataLe false id) c)).Pairwise fun a b => PySem.W.dataLe false id a b = true ∧ PySem.W.dataLe false id b a = false := hm.filter _
  have al : ∀ x ∈ m.filter (PySem.W.sameRank (PySem.W.dataLe false id) c), PySem.W.sameRank (PySem.W.dataLe false id) c x = true := fun x hx => (List.mem_filter.mp hx).2
  generalize m.filter (PySem.W.sameRank (PySem.W.dataLe false id) c) = f at *
  match f, pw, al with
  | [], _, _ => exact (List.Perm.eq_nil p2).symm
  | [x], _, _ => exact (List.perm_singleton.mp p2).symm
  | x :: y :: r, pw, al =>
    have h1 := (List.pairwise_cons.mp pw).1 y (by simp)
    have hx := al x (by simp)
    have hy := al y (by simp)
    unfold PySem.W.sameRank at hx hy
    rw [Bool.and_eq_true] at hx hy
    have : PySem.W.dataLe false id y x = true := by
      first
        | exact totalD.trans y c x hy.2 hx.1
        | exact totalD.trans y c x hy.1 hx.2
    rw [this] at h1
    cases h1.2
theorem tri_lt (i j i' j' : Int) (w w' : PyData) (ha : PySem.W.alike w w' = true) : PySem.W.dataLt (.tuple [.int i, .int j, w]) (.tuple [.int i', .int j', w']) = if i = i' then (if j = j' then (if PyData.eqv w w' = true then false else PySem.W.dataLt w w') else decide (j < j')) else decide (i < i') := by
  rw [PySem.W.dataLt_tuple, PySem.W.dataLt_cons (by simp [PySem.W.alike]), PySem.W.dataLt_cons (by simp [PySem.W.alike]), PySem.W.dataLt_cons ha, PySem.W.dataLt_int, PySem.W.dataLt_int, eqv_int, eqv_int]
  have e : PyProof.Rows.lexLt PyProof.Rows.itemOrd (PySem.W.keyToksAll []) (PySem.W.keyToksAll []) = false := PyProof.Rows.lex_irrefl _
  rw [e]
  by_cases h1 : i = i' <;> by_cases h2 : j = j' <;> simp [h1, h2]
end Hc

namespace Hc
open PySem PySem.Spec PyProof.Rows L2
/-! ### lists of lists that may change -/
section
variable {K : PySem.W.Frag} {L M qs : List Addr} {ms1 xs : List MD} {H H' : Hp}
theorem to_lessAll : To (M ++ qs) M H H := fun a o n e => ⟨fun z => n (List.mem_append_left _ z), e⟩
theorem At.dropAll (h : At (L ++ qs) (M ++ qs) (ms1 ++ xs) H) (hx : qs.length = xs.length) (hl : ∀ q ∈ L, q ∈ M) : At L M ms1 H := by
  have hn : L.length = ms1.length := by
    have := h.ln
    simp at this
    omega
  refine ⟨(List.nodup_append.mp h.nd).1, hl, fun q hq => h.al q (List.mem_append_left _ hq), hn, fun k q x e1 e2 => ?_⟩
  have h1 : k < L.length := (List.getElem?_eq_some_iff.mp e1).1
  have h2 : k < ms1.length := (List.getElem?_eq_some_iff.mp e2).1
  exact (h.ok k q x (by rw [List.getElem?_append_left h1]; exact e1) (by rw [List.getElem?_append_left h2]; exact e2)).toL to_lessAll (fun k' q' hlt z => by rw [List.getElem?_append_left (by omega)] at z; exact z) rfl
/-- the rows' own mutables, and the list of them -/
def rowsM (n : Nat) (ess : List (List PyData)) : List MD := ess.map MD.l ++ [.r (List.range' n ess.length)]
def frzLS (n : Nat) (ess : List (List PyData)) : SD → SD
  | .m k => if k < n then .m k else if k = n + ess.length then .d (.list (ess.map .list)) else .d (.list (ess.getD (k - n) []))
  | s => s
theorem rows_len (n : Nat) (ess : List (List PyData)) : (rowsM n ess).length = ess.length + 1 := by simp [rowsM]
theorem RpA.ofGet : ∀ {xs : List V} {ds : List PyData}, xs.length = ds.length → (∀ (i : Nat) (v : V) (d : PyData), xs[i]? = some v → ds[i]? = some d → Rp M H v d) → RpA M H xs ds
  | [], [], _, _ => .nil
  | [], _ :: _, h, _ => by cases h
  | _ :: _, [], h, _ => by cases h
  | x :: xs, d :: ds, h, f => .cons (f 0 x d rfl rfl) (RpA.ofGet (by simpa using h) fun i v e h1 h2 => f (i + 1) v e (by simpa using h1) (by simpa using h2))
theorem rows_at (n : Nat) (ms1 : List MD) (ess : List (List PyData)) {i : Nat} {es : List PyData} (h : ess[i]? = some es) : (ms1 ++ rowsM n ess)[ms1.length + i]? = some (.l es) := by
  have hi := (List.getElem?_eq_some_iff.mp h).1
  rw [List.getElem?_append_right (by omega)]
  unfold rowsM
  rw [List.getElem?_append_left (by simp; omega), List.getElem?_map]
  have : ms1.length + i - ms1.length = i := by omega
  rw [this, h]
  rfl
theorem rows_top (n : Nat) (ms1 : List MD) (ess : List (List PyData)) : (ms1 ++ rowsM n ess)[ms1.length + ess.length]? = some (.r (List.range' n ess.length)) := by
  rw [List.getElem?_append_right (by omega)]
  unfold rowsM
  have : ms1.length + ess.length - ms1.length = (ess.map MD.l).length := by simp
  rw [this, List.getElem?_append_right (Nat.le_refl _), Nat.sub_self]
  rfl
theorem row_rp {ess : List (List PyData)} (a : At (L ++ qs) (M ++ qs) (ms1 ++ rowsM ms1.length ess) H) (hx : qs.length = ess.length + 1) (nm : ∀ q ∈ qs, q ∉ M) {i : Nat} {es : List PyData} {q : Addr} (he : ess[i]? = some es) (hq : (L ++ qs)[ms1.length + i]? = some q) : Rp M H (.ref q) (.list es) := by
  have hn : L.length = ms1.length := by
    have := a.ln
    simp [rows_len] at this
    omega
  obtain ⟨xs, e, r⟩ := a.ok _ q _ hq (rows_at _ _ _ he)
  have hm : q ∈ qs := by
    rw [List.getElem?_append_right (by omega)] at hq
    exact List.mem_of_getElem? hq
  exact .lst (nm q hm) e (RpA.to to_lessAll _ _ r)
theorem SlOk.frzLL {ess : List (List PyData)} {s : SD} {v : V} (a : At (L ++ qs) (M ++ qs) (ms1 ++ rowsM ms1.length ess) H) (hx : qs.length = ess.length + 1) (nm : ∀ q ∈ qs, q ∉ M) (h : SlOk K (L ++ qs) (M ++ qs) H s v) : SlOk K L M H (frzLS ms1.length ess s) v := by
  have hn : L.length = ms1.length := by
    have := a.ln
    simp [rows_len] at this
    omega
  cases s with
  | u => exact h
  | f _ => exact h
  | d x => exact Rp.to to_lessAll _ _ h
  | v x => exact h
  | s ns =>
    obtain ⟨b, e, ⟨n, q⟩ | q⟩ := h
    · exact ⟨b, e, .inl ⟨fun z => n (List.mem_append_left _ z), q⟩⟩
    · exact ⟨b, e, .inr q⟩
  | m k =>
    obtain ⟨p, rfl, hp⟩ := h
    have hk := (List.getElem?_eq_some_iff.mp hp).1
    rw [List.length_append, hn, hx] at hk
    show SlOk K L M H (if k < ms1.length then .m k else if k = ms1.length + ess.length then .d (.list (ess.map .list)) else .d (.list (ess.getD (k - ms1.length) []))) (.ref p)
    by_cases h1 : k < ms1.length
    · rw [if_pos h1]
      rw [List.getElem?_append_left (by omega)] at hp
      exact ⟨p, rfl, hp⟩
    · rw [if_neg h1]
      by_cases h2 : k = ms1.length + ess.length
      · rw [if_pos h2]
        subst h2
        obtain ⟨ps, e, ln, f⟩ := a.ok _ p _ hp (rows_top _ _ _)
        rw [List.length_range'] at ln
        have hm : p ∈ qs := by
          rw [List.getElem?_append_right (by omega)] at hp
          exact List.mem_of_getElem? hp
        refine Rp.lst (nm p hm) e (RpA.ofGet (by simp [ln]) fun i v d e1 e2 => ?_)
        rw [List.getElem?_map] at e1 e2
        cases q1 : ps[i]? with
        | none => rw [q1] at e1; cases e1
        | some q =>
          cases q2 : ess[i]? with
          | none => rw [q2] at e2; cases e2
          | some es =>
            rw [q1] at e1
            rw [q2] at e2
            cases e1
            cases e2
            have hi := (List.getElem?_eq_some_iff.mp q2).1
            have := (f i (ms1.length + i) q (by rw [List.getElem?_range' hi]; simp) q1).1
            exact row_rp a hx nm q2 this
      · rw [if_neg h2]
        have hi : k - ms1.length < ess.length := by omega
        have e2 : ess[k - ms1.length]? = some (ess.getD (k - ms1.length) []) := by simp [List.getD, hi]
        refine row_rp a hx nm e2 ?_
        have : ms1.length + (k - ms1.length) = k := by omega
        rw [this]
        exact hp
theorem Sl.frzLL {σ : L2.St} {ds : List SD} {ess : List (List PyData)} (a : At (L ++ qs) (M ++ qs) (ms1 ++ rowsM ms1.length ess) H) (hx : qs.length = ess.length + 1) (nm : ∀ q ∈ qs, q ∉ M) (h : Sl K (L ++ qs) (M ++ qs) σ H ds) : Sl K L M σ H (ds.map (frzLS ms1.length ess)) := fun i s e => by
  rw [List.getElem?_map] at e
  cases q : ds[i]? with
  | none => rw [q] at e; cases e
  | some s0 =>
    rw [q] at e
    have e' : frzLS ms1.length ess s0 = s := Option.some.inj e
    by_cases hu : s0 = .u
    · subst hu
      subst e'
      exact h i .u q
    · obtain ⟨v, e1, e2⟩ := h.get q hu
      have z := e2.frzLL a hx nm
      rw [e'] at z
      cases s with
      | u => exact z.elim
      | f _ => exact z.elim
      | d x => exact ⟨v, e1, z⟩
      | m k => exact ⟨v, e1, z⟩
      | s ns => exact ⟨v, e1, z⟩
      | v x => exact ⟨v, e1, z⟩
end
def Po.frzLL (P : Po) (n c : Nat) : Po where
  nx := fun ds' ms' => ∃ ms1 ess, ms' = ms1 ++ rowsM n ess ∧ ms1.length = n ∧ ess.length = c ∧ P.nx (ds'.map (frzLS n ess)) ms1
  rt := fun s ms' => ∃ ms1 ess, ms' = ms1 ++ rowsM n ess ∧ ms1.length = n ∧ ess.length = c ∧ P.rt (frzLS n ess (dd s)) ms1
  bk := fun ds' ms' => ∃ ms1 ess, ms' = ms1 ++ rowsM n ess ∧ ms1.length = n ∧ ess.length = c ∧ P.bk (ds'.map (frzLS n ess)) ms1
  ct := fun ds' ms' => ∃ ms1 ess, ms' = ms1 ++ rowsM n ess ∧ ms1.length = n ∧ ess.length = c ∧ P.ct (ds'.map (frzLS n ess)) ms1
section
variable {K : PySem.W.Frag} {L M qs : List Addr} {ms ms1 : List MD} {H H1 H' : Hp} {ds : List SD} {P : Po} {tA : TA} {u : TS} {R : RS}
/-- how it stands within [[] for .. in range(..)] -/
structure Ls (H1 : Hp) (D : Addr) (i : Nat) (qs : List Addr) (H : Hp) : Prop where
  w : ∀ a o, H1 a = some o → H a = some o
  len : qs.length = i
  d : H D = some (.lst (qs.map V.ref))
  q : ∀ q ∈ qs, H q = some (.lst []) ∧ H1 q = none ∧ q ≠ D
  nd : qs.Nodup
theorem Ls.at {D : Addr} {i : Nat} {qs : List Addr} (a : At L M ms H1) (hD : H1 D = none) (c : Ls H1 D i qs H) : At (L ++ (qs ++ [D])) (M ++ (qs ++ [D])) (ms ++ rowsM ms.length (List.replicate i [])) H := by
  have fr : ∀ p ∈ qs ++ [D], H1 p = none := fun p hp => by
    rcases List.mem_append.mp hp with z | z
    · exact (c.q p z).2.1
    · rw [List.mem_singleton.mp z]; exact hD
  have nL : ∀ p ∈ qs ++ [D], p ∉ L := fun p hp => a.freshL (fr p hp)
  have t : To M (M ++ (qs ++ [D])) H1 H := fun b o n e => ⟨(fun z => (List.mem_append.mp z).elim n fun z => by
    have := fr b z
    rw [this] at e
    cases e), c.w b o e⟩
  have hl := a.ln
  refine ⟨?_, ?_, ?_, ?_, fun k p m e1 e2 => ?_⟩
  · refine List.nodup_append.mpr ⟨a.nd, List.nodup_append.mpr ⟨c.nd, by simp, fun x hx y hy z => ?_⟩, fun x hx y hy z => ?_⟩
    · rw [List.mem_singleton.mp hy] at z
      exact (c.q x hx).2.2 z
    · subst z
      exact nL x hy hx
  · intro p hp
    rcases List.mem_append.mp hp with z | z
    · exact List.mem_append_left _ (a.sub p z)
    · exact List.mem_append_right _ z
  · intro p hp
    rcases List.mem_append.mp hp with z | z
    · cases e : H1 p with
      | none => exact absurd e (a.al p z)
      | some o => rw [c.w p o e]; exact nofun
    · rcases List.mem_append.mp z with z | z
      · rw [(c.q p z).1]; exact nofun
      · rw [List.mem_singleton.mp z, c.d]; exact nofun
  · simp [rows_len, hl, c.len]
  · by_cases h1 : k < L.length
    · rw [List.getElem?_append_left h1] at e1
      rw [List.getElem?_append_left (by omega)] at e2
      refine (a.ok k p m e1 e2).toL t (fun k' q' _ z => by rw [List.getElem?_append_left (List.getElem?_eq_some_iff.mp z).1]; exact z) ?_
      cases e : H1 p with
      | none => exact absurd e (a.al p (a.sub p (List.mem_of_getElem? e1)))
      | some o => exact c.w p o e
    · have hk := (List.getElem?_eq_some_iff.mp e1).1
      simp at hk
      have hcl := c.len
      rw [List.getElem?_append_right (by omega)] at e1
      by_cases h2 : k - L.length < qs.length
      · rw [List.getElem?_append_left h2] at e1
        have := rows_at ms.length ms (List.replicate i []) (i := k - L.length) (es := []) (by rw [List.getElem?_replicate, if_pos (by omega)])
        rw [show ms.length + (k - L.length) = k by omega, e2] at this
        cases this
        exact ⟨[], (c.q p (List.mem_of_getElem? e1)).1, .nil⟩
      · have hk2 : k = ms.length + (List.replicate i ([] : List PyData)).length := by
          rw [List.length_replicate]
          omega
        have e3 := rows_top ms.length ms (List.replicate i [])
        rw [← hk2, e2] at e3
        cases e3
        rw [List.getElem?_append_right (by omega)] at e1
        have : k - L.length - qs.length = 0 := by rw [List.length_replicate] at hk2; omega
        rw [this] at e1
        cases e1
        refine ⟨qs, c.d, by rw [List.length_range', List.length_replicate]; exact hcl, fun j k' q h1 h2 => ?_⟩
        have hj := (List.getElem?_eq_some_iff.mp h2).1
        rw [List.length_replicate, List.getElem?_range' (by omega)] at h1
        have hk' : ms.length + j = k' := by simpa using h1
        subst hk'
        rw [List.length_replicate] at hk2
        refine ⟨?_, by omega⟩
        rw [List.getElem?_append_right (by omega), List.getElem?_append_left (by omega)]
        have : ms.length + j - L.length = j := by omega
        rw [this]
        exact h2
theorem s_newLL {i j : Nat} (h : EA K tA ds ms fun as ms1 => ∃ n : Nat, as = [.d (.int n)] ∧ n ≤ 10000 ∧ S K u (ds.set i (.m (ms1.length + n))) (ms1 ++ rowsM ms1.length (List.replicate n [])) (P.frzLL ms1.length n)) :
    S K (tSeq (tAsg (tLc (iRng1 tA) (gName j) tYes (tLst tNil) [j]) (gName i)) u) ds ms P := fun L M σ H hS hA D n r b c_ =>
  h L M σ H hS hA _ fun as vs H1 ms1 w a1 o ⟨m, ea, hm, h1⟩ => by
    subst ea
    obtain ⟨v, t1, rfl, hv, rfl⟩ := o
    cases hv
    refine ⟨m, rfl, by omega, by omega, fun E hE => ?_⟩
    have hst : Ls H1 E 0 [] (upd H1 E (.lst [])) := ⟨fun a o e => by rw [upd_ne (ne_of_none e hE)]; exact e, rfl, upd_same, (fun q hq => by cases hq), List.Pairwise.nil⟩
    refine lc_range (lo := 0) (n := m) (fun i H' => ∃ qs, Ls H1 E i qs H') ⟨[], hst⟩ (fun i H' hi ⟨qs, c⟩ => ?_) (fun H' ⟨qs, c⟩ => ?_)
    · show L2.wipe ((L2.wipe σ [j]).set j _) [j] = L2.wipe σ [j] ∧ tYes _ H' _
      refine ⟨?_, ?_⟩
      · rw [wipe_set _ _ _ _ (by simp)]
        apply List.ext_getElem?
        intro k
        rw [wipe_get, wipe_get, wipe_length]
        by_cases e : k ∈ [j]
        · rw [if_pos e, if_pos e]
        · rw [if_neg e, if_neg e]
      · unfold tYes
        simp only [if_true]
        refine ⟨Nat.zero_le _, fun q hq => ?_⟩
        have ne : E ≠ q := fun z => by
          subst z
          rw [c.d] at hq
          cases hq
        have h1q : H1 q = none := by
          cases e : H1 q with
          | none => rfl
          | some o => rw [c.w q o e] at hq; cases hq
        have ob : ∀ x o, H' x = some o → x ≠ q := fun x o e z => by
          subst z
          rw [e] at hq
          cases hq
        refine ⟨qs.map V.ref, by rw [upd_ne ne]; exact c.d, by rw [List.length_map, c.len]; exact Nat.lt_of_lt_of_le (show i < 10001 by omega) (by decide), qs ++ [q], ⟨fun a o e => ?_, by rw [List.length_append, c.len]; rfl, by rw [upd_same, List.map_append]; rfl, fun x hx => ?_, ?_⟩⟩
        · rw [upd_ne (ne_of_none e hE), upd_ne (ob a o (c.w a o e))]
          exact c.w a o e
        · rcases List.mem_append.mp hx with z | z
          · obtain ⟨q1, q2, q3⟩ := c.q x z
            exact ⟨by rw [upd_ne q3, upd_ne (ob x _ q1)]; exact q1, q2, q3⟩
          · rw [List.mem_singleton.mp z]
            exact ⟨by rw [upd_ne (Ne.symm ne), upd_same], h1q, Ne.symm ne⟩
        · refine List.nodup_append.mpr ⟨c.nd, by simp, fun x hx y hy z => ?_⟩
          rw [List.mem_singleton.mp hy] at z
          exact ob x _ (c.q x hx).1 z
    · have a2 := c.at a1 hE
      have hcl := c.len
      have fr : ∀ p ∈ qs ++ [E], H1 p = none := fun p hp => by
        rcases List.mem_append.mp hp with z | z
        · exact (c.q p z).2.1
        · rw [List.mem_singleton.mp z]; exact hE
      have nm : ∀ p ∈ qs ++ [E], p ∉ M := fun p hp => a1.fresh (fr p hp)
      have fr0 : ∀ p ∈ qs ++ [E], H p = none := fun p hp => none_back a1 w (nm p hp) (fr p hp)
      have t : To M (M ++ (qs ++ [E])) H H' := fun x o nx e => ⟨(fun z => (List.mem_append.mp z).elim nx fun z => by
        have := fr0 x z
        rw [this] at e
        cases e), c.w x o (w x o (fun z => nx (hA.sub x z)) e)⟩
      have hl1 := a1.ln
      have hS1 : Sl K (L ++ (qs ++ [E])) (M ++ (qs ++ [E])) (σ.set i (some (.ref E))) H' (ds.set i (.m (ms1.length + m))) := by
        refine (hS.to t fun k q e => ?_).set i ⟨E, rfl, ?_⟩
        · rw [List.getElem?_append_left (List.getElem?_eq_some_iff.mp e).1]
          exact e
        · rw [List.getElem?_append_right (by omega), List.getElem?_append_right (by omega)]
          have : ms1.length + m - L.length - qs.length = 0 := by omega
          rw [this]
          rfl
      have wk : ∀ {H2 : Hp}, Wk (L ++ (qs ++ [E])) H' H2 → Wk L H H2 := fun {H2} w2 x y nx ex => w2 x y (fun z => (List.mem_append.mp z).elim nx fun z => by
        have := fr0 x z
        rw [this] at ex
        cases ex) (c.w x y (w x y nx ex))
      have lq : ∀ ess : List (List PyData), ess.length = m → (qs ++ [E]).length = ess.length + 1 := fun ess e => by simp; omega
      have go : ∀ {N : List SD → List MD → Prop} {C : L2.St → Hp → Prop}, Nx K L M H N C → Nx K (L ++ (qs ++ [E])) (M ++ (qs ++ [E])) H' (fun ds' ms' => ∃ ms2 ess, ms' = ms2 ++ rowsM ms1.length ess ∧ ms2.length = ms1.length ∧ ess.length = m ∧ N (ds'.map (frzLS ms1.length ess)) ms2) C := by
        intro N C nn σ2 H2 ds2 ms2 w2 s2 a2 ⟨ms3, ess, e3, l3, le, n3⟩
        subst e3
        rw [← l3] at n3 a2
        exact nn σ2 H2 _ ms3 (wk w2) (s2.frzLL a2 (lq ess le) nm) (a2.dropAll (by rw [lq ess le, rows_len]) hA.sub) n3
      refine h1 _ _ _ H' hS1 a2 D (go n) ?_ (go b) (go c_)
      intro s2 v2 H2 ms2 w2 o2 ⟨ms3, ess, e3, l3, le, n3⟩
      subst e3
      have o3 := o2.sl
      have a3 := o2.at
      rw [← l3] at n3 a3
      refine r _ v2 H2 ms3 (wk w2) ?_ n3
      have sl := o3.frzLL a3 (lq ess le) nm
      exact Out.of (a3.dropAll (by rw [lq ess le, rows_len]) hA.sub) sl
/-- a row of them -/
theorem rr_ixR {a b : SD} (h : ∃ k i j ks, a = .m k ∧ b = .d (.int (i : Nat)) ∧ ms[k]? = some (.r ks) ∧ ks[i]? = some j ∧ R (.m j) ms) : RR K (rIx K) a b ms R := fun L M H x y hA ha hb Q q => by
  obtain ⟨k, i, j, ks, rfl, rfl, hk, hj, r⟩ := h
  obtain ⟨p, rfl, hp⟩ := ha
  cases hb
  obtain ⟨ps, e, ln, f⟩ := hA.ok k p _ hp hk
  have hi := (List.getElem?_eq_some_iff.mp hj).1
  have hi2 : i < ps.length := by omega
  have hq := List.getElem?_eq_getElem hi2
  refine .inl ⟨p, _, i, .ref ps[i], rfl, rfl, SqL.of e, atI_nat (by rw [List.getElem?_map, hq]; rfl), ?_⟩
  exact q (.m j) _ H ms (Wk.refl L H) ⟨hA, _, rfl, (f i j _ hj hq).1⟩ r
end
end Hc

namespace Hc
open PySem PySem.Spec PyProof.Rows L2
/-! ### zip(t, xs) of a tuple and a list -/
def ItM (K : PySem.W.Frag) (a b : Addr) : It where
  go := fun i H => ∃ (xs : List V) (ys : List V) (x : V) (y : V), (SqT K H a xs ∧ xs[i]? = some x) ∧ SqL K H b ys ∧ ys[i]? = some y
  yld := fun i H v H2 => ∃ (N : Addr) (x : V) (y : V), v = .ref N ∧ H N = none ∧ H2 = upd H N (.tup [x, y]) ∧ (∀ xs : List V, SqT K H a xs → xs[i]? = some x) ∧ ∀ ys : List V, SqL K H b ys → ys[i]? = some y
  stop := fun i H => ∃ (xs : List V) (ys : List V), SqT K H a xs ∧ SqL K H b ys ∧ i = min xs.length ys.length
structure Apt (z t o c d a b : Addr) : Prop where
  nd : [z, t, o, c, d].Nodup
  na : a ∉ [z, t, o, c, d]
  nb : b ∉ [z, t, o, c, d]
theorem Apt.sep {z t o c d a b : Addr} (h : Apt z t o c d a b) : PySem.ZipSep2 z t o c d [c, a] [d, b] := by
  obtain ⟨nd, na, nb⟩ := h
  simp only [List.nodup_cons, List.mem_cons, List.not_mem_nil, or_false, not_or] at nd na nb
  obtain ⟨⟨zt, zo, zc, zd⟩, ⟨t_o, tc, td⟩, ⟨oc, od⟩, cd, _⟩ := nd
  obtain ⟨az, at', ao, ac, ad⟩ := na
  obtain ⟨bz, bt, bo, bc, bd⟩ := nb
  constructor <;> first | (simp; done) | (simp only [List.mem_cons, List.not_mem_nil, or_false, not_or]; exact ⟨by first | assumption | exact Ne.symm (by assumption), by first | assumption | exact Ne.symm (by assumption)⟩) | assumption | exact Ne.symm (by assumption)
theorem turn_zipM {P : Program} {w : World} {K : PySem.W.Frag} {es : List Expr} {n : Nat} {q : Pos} {a b z t o c d : Addr} (hap : Apt z t o c d a b) :
    Turn P w K (.Tuple es n q) (ItM K a b) [z, t, o, c, d] z (fun i h => (IsZip h z t o .none ∧ IsTupOf2 h t (.ref c) (.ref d)) ∧ (∃ u v, IsTupOf2 h o u v) ∧ h.IsTupleIter c a i ∧ h.IsListIter d b i) where
  mem := List.mem_cons_self ..
  obj := fun i h tn p hp => by
    obtain ⟨⟨h1, h2⟩, ⟨u, v, h3⟩, ⟨o4, g4, _, d4⟩, o5, g5, _, d5⟩ := tn
    simp only [List.mem_cons, List.not_mem_nil, or_false] at hp
    rcases hp with rfl | rfl | rfl | rfl | rfl
    · exact ⟨_, h1, nofun⟩
    · exact ⟨_, h2, nofun⟩
    · exact ⟨_, h3, nofun⟩
    · exact ⟨o4, g4, fun v y => by rw [d4] at y; cases y⟩
    · exact ⟨o5, g5, fun v y => by rw [d5] at y; cases y⟩
  keep := fun i h h2 tn k => by
    obtain ⟨⟨h1, h2⟩, ⟨u, v, h3⟩, h4, h5⟩ := tn
    exact ⟨⟨k z (by simp) _ h1, k t (by simp) _ h2⟩, ⟨u, v, k o (by simp) _ h3⟩, h4.at fun p y => k c (by simp) p y, h5.at fun p y => k d (by simp) p y⟩
  item := by
    intro X e1 e2 e3 cm i pins s σ H Ex I fp tn gg
    subst e1 e2 e3
    obtain ⟨⟨h1, h2⟩, ⟨u0, v0, h3⟩, h4, h5⟩ := tn
    obtain ⟨xs, ys, x, y, ⟨sq, hx⟩, sl, hy⟩ := gg
    obtain ⟨its, rv, tp, _⟩ := I.tuple sq
    obtain ⟨jts, rw', lp, _⟩ := I.list sl
    obtain ⟨u, hu, ru⟩ := rv.get hx
    obtain ⟨v, hv, rv2⟩ := rw'.get hy
    have sep := hap.sep
    have zl := Heap.lt_size h1
    have lt1 : i < its.toArray.size := by
      have := (List.getElem?_eq_some_iff.mp hu).1
      simpa using this
    have lt2 : i < jts.toArray.size := by
      have := (List.getElem?_eq_some_iff.mp hv).1
      simpa using this
    have hnd : X.A.in1.handled = none := I.ok.hd cm
    have ac : a ≠ c := fun z' => hap.na (by simp [z'])
    have bd : b ≠ d := fun z' => hap.nb (by simp [z'])
    refine wpAny_pyNext_zipD2_item sep (Draws.tuple hnd c a ac its.toArray) (Draws.list hnd d b bd jts.toArray) h1 h2 h3 ⟨h4, tp⟩ ⟨h5, lp.isList⟩ lt1 lt2 fun x1 x2 g tk p1 p2 k1 k3 k4 k5 hT _ kp => ?_
    have q1 : x1 = u := by
      have y1 : its.toArray[i]? = some x1 := p1
      rw [List.getElem?_toArray, hu] at y1
      exact (Option.some.inj y1).symm
    have q2 : x2 = v := by
      have y1 : jts.toArray[i]? = some x2 := p2
      rw [List.getElem?_toArray, hv] at y1
      exact (Option.some.inj y1).symm
    subst q1 q2
    refine ⟨_, rfl, wpAny_letOwnedTupleGo_zip (s := { s with heap := g, toks := tk }) k1 fun g3 z3 sb => ?_⟩
    have hT3 : g3.get? s.heap.objs.size = some { cls := .type "tuple", data := .seq #[x1, x2] } := (sb.2 _ (Nat.ne_of_gt zl)).trans hT
    have ok : ObjOk X.prog X.w (upd H s.heap.objs.size (.tup [x, y])) g3 s.heap.objs.size (.tup [x, y]) :=
      ⟨Nat.le_of_ble_eq_true rfl, [x1, x2], .cons ru (.cons rv2 .nil), ⟨_, hT3, rfl, _, rfl⟩⟩
    have ne4 : ∀ p, p ∉ [z, t, o, c, d] → p ≠ z ∧ p ≠ o ∧ p ≠ c ∧ p ≠ d := fun p np => by
      simp only [List.mem_cons, List.not_mem_nil, or_false, not_or] at np
      exact ⟨np.1, np.2.2.1, np.2.2.2.1, np.2.2.2.2⟩
    have I3 : L2.Inv X pins σ (upd H s.heap.objs.size (.tup [x, y])) { s with heap := g3, toks := tk } :=
      I.turnedNew (ch := [z, t, o, c, d]) (fun p ob np y => by
        obtain ⟨n1, n2, n3, n4⟩ := ne4 p np
        exact (sb.2 p n1).trans (kp p ob n1 n2 n3 n4 y)) fp (Nat.le_refl _) ok
    refine ⟨.ref s.heap.objs.size, _, I3, rfl, ⟨_, x, y, rfl, I.hok.fresh (Nat.le_refl _), rfl, fun l hl => by rw [I.tuple_inj hl sq]; exact hx, fun l hl => by rw [I.list_inj hl sl]; exact hy⟩, ⟨⟨z3, ?_⟩, ⟨x1, x2, ?_⟩, ?_, ?_⟩, fun p hp => ?_⟩
    · exact (sb.2 _ sep.TIz).trans (kp _ _ sep.TIz sep.TITO sep.TIi1 sep.TIi2 h2)
    · exact (sb.2 _ sep.TOz).trans k3
    · exact k4.1.at fun ob y => (sb.2 _ (Ne.symm sep.zi1)).trans y
    · exact k5.1.at fun ob y => (sb.2 _ (Ne.symm sep.zi2)).trans y
    · have lb : p < s.heap.objs.size := by
        simp only [List.mem_cons, List.not_mem_nil, or_false] at hp
        rcases hp with rfl | rfl | rfl | rfl | rfl
        · exact zl
        · exact Heap.lt_size h2
        · exact Heap.lt_size h3
        · obtain ⟨_, g4, _⟩ := h4
          exact Heap.lt_size g4
        · obtain ⟨_, g5, _⟩ := h5
          exact Heap.lt_size g5
      rw [upd_ne (Nat.ne_of_lt lb)]
      exact (fp p hp).1
  done := by
    intro X e1 e2 e3 cm i pins s σ H Ex I fp tn gg
    subst e1 e2 e3
    obtain ⟨⟨h1, h2⟩, ⟨u0, v0, h3⟩, h4, h5⟩ := tn
    obtain ⟨xs, ys, sq, sl, hi⟩ := gg
    obtain ⟨its, rv, tp, _⟩ := I.tuple sq
    obtain ⟨jts, rw', lp, _⟩ := I.list sl
    have l1 := rv.length
    have l2 := rw'.length
    have sep := hap.sep
    have hnd : X.A.in1.handled = none := I.ok.hd cm
    have ac : a ≠ c := fun z' => hap.na (by simp [z'])
    have bd : b ≠ d := fun z' => hap.nb (by simp [z'])
    refine wpAny_pyNext_zipD2_end sep (Draws.tuple hnd c a ac its.toArray) (Draws.list hnd d b bd jts.toArray) h1 h2 h3 ⟨h4, tp⟩ ⟨h5, lp.isList⟩ (by simp; omega) (by simp; omega) (by simp; omega) fun g tk kp => ⟨rfl, I.turnedL (ch := [z, t, o, c, d]) (fun p ob np y => ?_) fp⟩
    simp only [List.mem_cons, List.not_mem_nil, or_false, not_or] at np
    exact kp p ob np.1 np.2.2.1 np.2.2.2.1 np.2.2.2.2 y
  self := fun A i s Q Ex tn k => wpAny_pyIter_zip tn.1.1 k
def iZipM (K : PySem.W.Frag) (ta : TA) : TI := fun σ H R => ta σ H fun vs H1 => ∃ (a b : Addr) (xs ys : List V), (vs = [.ref a, .ref b] ∧ SqT K H1 a xs) ∧ SqL K H1 b ys ∧ R (ItM K a b) H1
theorem pi_zipM {X : Cx} {ex ey : Expr} {ta : TA} {p1 p2 p3 : Pos} {es : List Expr} {n : Nat} (hg : Gl X "zip") (hm : X.mg "zip" = none) (ha : PA X [ex, ey] ta)
    (h1 : starEach [ex, ey] X.env = (false, eval ex X.env) :: starEach [ey] X.env := by rfl) (h2 : (backTo p2 (starEach [ey] X.env)).any (·.1) = false := by rfl) :
    PI X (.Tuple es n p3) (.Call (.Name "zip" p1) [ex, ey] [] p2) (iZipM X.K ta) := by
  constructor
  intro pins s σ H R I h
  refine Call_ (ld_blt I hg hm boot_zip (PyProof.Rows.callWith_type1 (thn (ha.run p2 pins s σ H _ I h) ?_) h1 h2))
  rintro us s1 ⟨vs, H1, I1, r1, a, b, xs, ys, ⟨rfl, sq⟩, sl, q⟩
  cases r1 with
  | cons r rr =>
    cases rr with
    | cons r' rr =>
      cases rr
      cases r
      cases r'
      obtain ⟨its, rv, tp, _⟩ := I1.tuple sq
      obtain ⟨jts, rw', lp, _⟩ := I1.list sl
      have la : a < s1.heap.objs.size := by
        obtain ⟨_, g, _⟩ := id (show s1.heap.IsTuple a its.toArray from tp)
        exact Heap.lt_size g
      have lb : b < s1.heap.objs.size := by
        obtain ⟨_, g, _⟩ := lp.isList
        exact Heap.lt_size g
      refine zip_begins2 (begins_tuple a its.toArray) (begins_list b jts.toArray) tp lp.isList fun hp z1 z2 z3 z4 z5 _ kp => wpAny_pyIter_zip z1 ?_
      have fr : ∀ p ∈ [s1.heap.objs.size + 4, s1.heap.objs.size + 2, s1.heap.objs.size + 3, s1.heap.objs.size, s1.heap.objs.size + 1], FpOk X pins H1 p := fun p hp => by
        have le : s1.heap.objs.size ≤ p := by
          simp only [List.mem_cons, List.not_mem_nil, or_false] at hp
          omega
        exact I1.fpOk le (I1.hok.fresh le)
      have ap : Apt (s1.heap.objs.size + 4) (s1.heap.objs.size + 2) (s1.heap.objs.size + 3) s1.heap.objs.size (s1.heap.objs.size + 1) a b := by
        refine ⟨by simp, ?_, ?_⟩
        · simp only [List.mem_cons, List.not_mem_nil, or_false]
          rintro (z | z | z | z | z) <;> (rw [z] at la; exact absurd la (Nat.not_lt_of_le (by first | exact Nat.le_add_right _ _ | exact Nat.le_refl _)))
        · simp only [List.mem_cons, List.not_mem_nil, or_false]
          rintro (z | z | z | z | z) <;> (rw [z] at lb; exact absurd lb (Nat.not_lt_of_le (by first | exact Nat.le_add_right _ _ | exact Nat.le_refl _)))
      exact ⟨_, [s1.heap.objs.size + 4, s1.heap.objs.size + 2, s1.heap.objs.size + 3, s1.heap.objs.size, s1.heap.objs.size + 1], _, _, H1, rfl, I1.kept (t' := s1.toks) kp, turn_zipM ap, ⟨⟨z1, z2⟩, ⟨_, _, z3⟩, ⟨_, z4, rfl, rfl⟩, ⟨_, z5, rfl, rfl⟩⟩, fr, q⟩
theorem walk_zipM {K : PySem.W.Frag} {a b : Addr} {xs ys : List V} : Walk (ItM K a b) (min xs.length ys.length) (fun H => SqT K H a xs ∧ SqL K H b ys) (YPair (fun i => xs[i]?) (fun i => ys[i]?)) where
  goes := fun i H hi sq => ⟨xs, ys, xs[i]'(by omega), ys[i]'(by omega), ⟨sq.1, List.getElem?_eq_getElem (by omega)⟩, sq.2, List.getElem?_eq_getElem (by omega)⟩
  stops := fun H sq => ⟨xs, ys, sq.1, sq.2, rfl⟩
  yields := fun i H v H2 hi sq ⟨N, x, y, e, f, u, k1, k2⟩ => ⟨N, x, y, e, f, u, k1 xs sq.1, k2 ys sq.2⟩
section
variable {K : PySem.W.Frag} {te ta tb tc tl : TE} {tt : TT} {tA : TA} {ds : List SD} {ms : List MD} {R : RS} {t u : TS} {P : Po}
theorem s_forM {g : TG} {js : List Nat} (h : EA K tA ds ms fun as ms0 => ∃ (s2 : SD) (es fs : List PyData), as = [.d (.tuple es), s2] ∧ Sw s2 fs ∧ ∃ Pv : Nat → List SD → List MD → Prop, Pv 0 ds ms0 ∧
      (∀ i e f ds1 ms1, es[i]? = some e → fs[i]? = some f → Pv i ds1 ms1 → EG K g js (.d (.tuple [e, f])) ds1 ms1 fun ds2 ms2 => S K t ds2 ms2 { P with nx := Pv (i + 1), ct := Pv (i + 1), bk := P.nx }) ∧ ∀ ds1 ms1, Pv (min es.length fs.length) ds1 ms1 → P.nx ds1 ms1) :
    S K (tFor (iZipM K tA) g t) ds ms P := fun L M σ H hS hA D n r b c =>
  h L M σ H hS hA _ fun as vs H1 ms0 w a1 o ⟨s2, es, fs, ea, sw2, Pv, h0, hs, hd⟩ => by
    subst ea
    obtain ⟨v1, t1, rfl, hv1, v2, t2, rfl, hv2, rfl⟩ := o
    have hv1' : Rp M H1 v1 (.tuple es) := hv1
    cases hv1' with
    | @tup a xs _ na ea rx =>
    obtain ⟨b', ys, rfl, ry, hy⟩ := sw2.is a1 hv2
    have hx : ∀ H', Wk L H1 H' → SqT K H' a xs := fun H' w' => SqT.of (w' a _ (fun z => na (a1.sub a z)) ea)
    refine ⟨a, b', xs, ys, ⟨rfl, hx H1 (Wk.refl L H1)⟩, hy H1 (Wk.refl L H1), for_it walk_zipM (fun i σ' H' => ∃ ds' ms', Wk L H1 H' ∧ Sl K L M σ' H' ds' ∧ At L M ms' H' ∧ Pv i ds' ms') ⟨ds, ms0, Wk.refl L H1, hS.mono hA w, a1, h0⟩ (fun i σ' H' _ ⟨_, _, w', _⟩ => ⟨hx H' w', hy H' w'⟩) (fun i x σ' H' H2 hi ⟨ds', ms', w', s', a', p'⟩ y => ?_) (fun σ' H' ⟨ds', ms', w', s', a', p'⟩ => ?_)⟩
    · obtain ⟨N, x1, y1, rfl, hN, rfl, q1, q2⟩ := y
      obtain ⟨e, e1, e2⟩ := rx.get' q1
      obtain ⟨f, f1, f2⟩ := ry.get' q2
      have w2 : Wk L H' (upd H' N (.tup [x1, y1])) := Wk.new hN
      have a2 := a'.new (o := .tup [x1, y1]) hN
      have w3 := w'.trans w2
      refine hs i e f ds' ms' e1 f1 p' L M σ' _ (.ref N) (s'.mono a' w2) a2 (Rp.tup (a'.fresh hN) upd_same (.cons (Rp.to (a1.wk w3) _ _ e2) (.cons (Rp.to (a1.wk w3) _ _ f2) .nil))) _ fun σ2 ds2 s2 _ h2 => ?_
      exact h2 L M σ2 _ s2 a2 _ (fun σ3 H3 ds3 ms3 w4 s3 a3 p3 => ⟨ds3, ms3, w3.trans w4, s3, a3, p3⟩) (r.on a2 (w.trans w3)) (n.on (w.trans w3)) (fun σ3 H3 ds3 ms3 w4 s3 a3 p3 => ⟨ds3, ms3, w3.trans w4, s3, a3, p3⟩)
    · rw [rx.length, ry.length] at p'
      exact n σ' H' ds' ms' (w.trans w') s' a' (hd ds' ms' p')
/-! ### sum(xs) of ints -/
theorem rc_sum {as : List SD} (h : ∃ (s : SD) (ns : List Int), as = [s] ∧ Sv ms s (.list (ns.map .int)) ∧ R (.d (.int ns.sum)) ms) : RC K (rSum K) as ms R := fun L M H vs hA ha Q q => by
  obtain ⟨s, ns, rfl, sv, r⟩ := h
  obtain ⟨v, t, rfl, hv, rfl⟩ := ha
  obtain ⟨p, xs, rfl, hq, hr⟩ := sv.lst hA hv
  rw [RpA.ints_inv hr] at hq
  exact ⟨p, ns, rfl, hq, q (.d (.int _)) _ H ms (Wk.refl L H) ⟨hA, .int _⟩ r⟩
end
end Hc

namespace K31
open PySem PySem.Spec PyProof.Rows L2 Hc
def topS (i : Nat) : Stmt := PySem.Challenge.pw_heavycut_k31_greedy.main.body.getD i (.Pass ⟨0, 0, 0, 0⟩)
def blt : List Str := ["abs", "range", "zip", "sum", "tuple", "len", "isinstance", "int", "bool", "min", "max"]
abbrev s_common_divisor : Stmt := topS 1
theorem sc_common_divisor : FnScope ["one", "other"] ["one", "other"] (defScope s_common_divisor) := ⟨rfl, rfl, rfl, by decide +kernel, rfl, by decide +kernel, by decide +kernel⟩
abbrev s_common_bottom : Stmt := topS 2
theorem sc_common_bottom : FnScope ["terms", "common", "top", "bottom"] ["terms"] (defScope s_common_bottom) := ⟨rfl, rfl, rfl, by decide +kernel, rfl, by decide +kernel, by decide +kernel⟩
abbrev s_whole_scale : Stmt := topS 4
theorem sc_whole_scale : FnScope ["web", "one", "other", "weight"] ["web"] (defScope s_whole_scale) := ⟨rfl, rfl, rfl, by decide +kernel, rfl, by decide +kernel, by decide +kernel⟩
abbrev s_whole_weights : Stmt := topS 5
theorem sc_whole_weights : FnScope ["web", "scale", "one", "other", "top", "bottom"] ["web"] (defScope s_whole_weights) := ⟨rfl, rfl, rfl, by decide +kernel, rfl, by decide +kernel, by decide +kernel⟩
abbrev s_ties_at : Stmt := topS 7
theorem sc_ties_at : FnScope ["web", "near", "point", "one", "other", "weight", "whole"] ["web"] (defScope s_ties_at) := ⟨rfl, rfl, rfl, by decide +kernel, rfl, by decide +kernel, by decide +kernel⟩
abbrev s_greedy : Stmt := topS 8
theorem sc_greedy : FnScope ["web", "near", "bits", "point", "before", "with_one", "with_zero", "other", "weight"] ["web"] (defScope s_greedy) := ⟨rfl, rfl, rfl, by decide +kernel, rfl, by decide +kernel, by decide +kernel⟩
abbrev s__law_cell_at : Stmt := topS 10
theorem sc__law_cell_at : FnScope ["_law_script", "_law_k"] ["_law_script", "_law_k"] (defScope s__law_cell_at) := ⟨rfl, rfl, rfl, by decide +kernel, rfl, by decide +kernel, by decide +kernel⟩
abbrev s__law_stream : Stmt := topS 11
theorem sc__law_stream : FnScope ["_law_cell", "_law_many", "_law_digits", "_law_left", "_law_k", "_law_found", "_law_number", "_law_other"] ["_law_cell", "_law_many"] (defScope s__law_stream) := ⟨rfl, rfl, rfl, by decide +kernel, rfl, by decide +kernel, by decide +kernel⟩
abbrev s__law_take : Stmt := topS 12
theorem sc__law_take : FnScope ["_law_xs"] ["_law_xs"] (defScope s__law_take) := ⟨rfl, rfl, rfl, by decide +kernel, rfl, by decide +kernel, by decide +kernel⟩
abbrev s__law_reduced : Stmt := topS 13
theorem sc__law_reduced : FnScope ["_law_top", "_law_bottom", "_law_one", "_law_other"] ["_law_top", "_law_bottom"] (defScope s__law_reduced) := ⟨rfl, rfl, rfl, by decide +kernel, rfl, by decide +kernel, by decide +kernel⟩
abbrev s__law_weight : Stmt := topS 14
theorem sc__law_weight : FnScope ["_law_number", "_law_way", "_law_far"] ["_law_number"] (defScope s__law_weight) := ⟨rfl, rfl, rfl, by decide +kernel, rfl, by decide +kernel, by decide +kernel⟩
abbrev s__law_web : Stmt := topS 15
theorem sc__law_web : FnScope ["_law_xs", "_law_most", "_law_many", "_law_share", "_law_ties", "_law_a", "_law_b", "_law_number"] ["_law_xs", "_law_most"] (defScope s__law_web) := ⟨rfl, rfl, rfl, by decide +kernel, rfl, by decide +kernel, by decide +kernel⟩
abbrev s__law_great_web : Stmt := topS 16
theorem sc__law_great_web : FnScope ["_law_xs", "_law_many", "_law_step", "_law_ties", "_law_a", "_law_far"] ["_law_xs"] (defScope s__law_great_web) := ⟨rfl, rfl, rfl, by decide +kernel, rfl, by decide +kernel, by decide +kernel⟩
abbrev s__law_plus : Stmt := topS 17
theorem sc__law_plus : FnScope ["_law_one", "_law_other"] ["_law_one", "_law_other"] (defScope s__law_plus) := ⟨rfl, rfl, rfl, by decide +kernel, rfl, by decide +kernel, by decide +kernel⟩
abbrev s__law_less : Stmt := topS 18
theorem sc__law_less : FnScope ["_law_one", "_law_other"] ["_law_one", "_law_other"] (defScope s__law_less) := ⟨rfl, rfl, rfl, by decide +kernel, rfl, by decide +kernel, by decide +kernel⟩
abbrev s__law_cut_behind : Stmt := topS 19
theorem sc__law_cut_behind : FnScope ["_law_web_here", "_law_bits", "_law_point", "_law_bit", "_law_total", "_law_a", "_law_b", "_law_weight_here"] ["_law_web_here", "_law_bits", "_law_point", "_law_bit"] (defScope s__law_cut_behind) := ⟨rfl, rfl, rfl, by decide +kernel, rfl, by decide +kernel, by decide +kernel⟩
abbrev s__law_greedy : Stmt := topS 20
theorem sc__law_greedy : FnScope ["_law_web_here", "_law_bits", "_law_point", "_law_bit"] ["_law_web_here"] (defScope s__law_greedy) := ⟨rfl, rfl, rfl, by decide +kernel, rfl, by decide +kernel, by decide +kernel⟩
abbrev s__law_half : Stmt := topS 21
theorem sc__law_half : FnScope ["_law_web_here", "_law_bits", "_law_whole", "_law_cut", "_law_a", "_law_b", "_law_weight_here"] ["_law_web_here", "_law_bits"] (defScope s__law_half) := ⟨rfl, rfl, rfl, by decide +kernel, rfl, by decide +kernel, by decide +kernel⟩
abbrev s__law_right : Stmt := topS 22
theorem sc__law_right : FnScope ["_law_web_here", "_law_found", "_law_bit"] ["_law_web_here"] (defScope s__law_right) := ⟨rfl, rfl, rfl, by decide +kernel, rfl, by decide +kernel, by decide +kernel⟩
abbrev s_law : Stmt := topS 23
theorem sc_law : FnScope ["_law_script", "_law_k", "_law_web_here"] ["_law_script"] (defScope s_law) := ⟨rfl, rfl, rfl, by decide +kernel, rfl, by decide +kernel, by decide +kernel⟩
section
variable {Pg : Program} {w : World} {K : PySem.W.Frag} {mg : Str → Option Value} {base : Heap}
def t_common_divisor (K : PySem.W.Frag) : TS := (tSeq (tPar 0 1 (tCons (tCB rAbs (tCons (tVar 0) tNil)) (tCons (tCB rAbs (tCons (tVar 1) tNil)) tNil)))
    (tSeq (tWhile (tTest (tOp (rNeD K) (tVar 1) (tC (.int 0)))) (tPar 0 1 (tCons (tVar 1) (tCons (tOp rModN (tVar 0) (tVar 1)) tNil))))
    (tRet (tVar 0))))
theorem dv_common_divisor {f : Addr} {cdv : Value} {A : Around} {outer : List Env} {s : Shared} {H : Hp} {E : XK} (hr : Room 0 (A.deeper (envOfC "common_divisor" (defScope s_common_divisor) s.heap.objs.size f cdv))) (B : ∀ x, x ∈ blt → mg x = none) :
    PSs (cxOf CX0 Pg w K mg base ["one", "other"] "common_divisor" (defScope s_common_divisor) f cdv A outer s H E).nox (defBody s_common_divisor) (t_common_divisor K) :=
  (pss_cons (ps_par (by rfl) sc_common_divisor.nd (i := 0) (j := 1) rfl rfl (by decide) rfl rfl (pa_cons (pe_callB call_abs (by rfl) (B "abs" (by decide)) (by decide +kernel) (pa_cons (pv 0) pa_nil)) (pa_cons (pe_callB call_abs (by rfl) (B "abs" (by decide)) (by decide +kernel) (pa_cons (pv 1) pa_nil)) pa_nil)) (by rfl))
      (pss_cons (ps_while PassesOwn.never (pt_cmpR (op_neD hr.units) (pv 1) pe_int (nomark _)) (pss_one (ps_par (by rfl) sc_common_divisor.nd (i := 0) (j := 1) rfl rfl (by decide) rfl rfl (pa_cons (pv 1) (pa_cons (pe_op op_modN (pv 0) (pv 1)) pa_nil)) (by rfl))))
      (pss_one (ps_ret (pv 0)))))
def t_common_bottom (K : PySem.W.Frag) (Φ_common_divisor : Ph) : TS := (tSeq (tAsg (tC (.int 1)) (gName 1))
    (tSeq (tFor (iList K (tVar 0)) (gTup K 2 (gCons (gName 2) (gCons (gName 3) gNil))) (tAsg (tOp rMulX (tOp rDivX (tVar 1) (tCall (SpD K Φ_common_divisor) [] E0 (tCons (tVar 1) (tCons (tVar 3) tNil)))) (tVar 3)) (gName 1)))
    (tRet (tVar 1))))
theorem dv_common_bottom {f : Addr} {cdv : Value} {A : Around} {outer : List Env} {s : Shared} {H : Hp} {E : XK} (hr : Room 1 (A.deeper (envOfC "common_bottom" (defScope s_common_bottom) s.heap.objs.size f cdv))) (B : ∀ x, x ∈ blt → mg x = none) {Φ_common_divisor : Ph} (g_common_divisor : Kn Pg w K mg base "common_divisor" 1 ["one", "other"] Φ_common_divisor) :
    PSs (cxOf CX0 Pg w K mg base ["terms", "common", "top", "bottom"] "common_bottom" (defScope s_common_bottom) f cdv A outer s H E).nox (defBody s_common_bottom) (t_common_bottom K Φ_common_divisor) :=
  (pss_cons (ps_set (i := 1) sc_common_bottom.nd rfl (by first | exact .inl rfl | exact .inr rfl) pe_int)
      (pss_cons (ps_for PassesOwn.never rfl (pi_list (pv 0)) (pg_tup rfl (pgs_cons (pg_name (i := 2) sc_common_bottom.nd rfl (by first | exact .inl rfl | exact .inr rfl)) (pgs_cons (pg_name (i := 3) sc_common_bottom.nd rfl (by first | exact .inl rfl | exact .inr rfl)) pgs_nil))) (pss_one (ps_set (i := 1) sc_common_bottom.nd rfl (by first | exact .inl rfl | exact .inr rfl) (pe_op op_mulX (pe_op op_fdivX (pv 1) (pe_callD g_common_divisor (hr.mono (by decide)) (by rfl) (pa_cons (pv 1) (pa_cons (pv 3) pa_nil)))) (pv 3)))))
      (pss_one (ps_ret (pv 1)))))
def t_whole_scale (K : PySem.W.Frag) (Φ_common_bottom : Ph) : TS := (tRet (tCall (SpD K Φ_common_bottom) [] E0 (tCons (tLc (iTup K (tOp (rIx K) (tVar 0) (tC (.int 1)))) (gTup K 3 (gCons (gName 1) (gCons (gName 2) (gCons (gName 3) gNil)))) tYes (tVar 3) [1, 2, 3]) tNil)))
theorem dv_whole_scale {f : Addr} {cdv : Value} {A : Around} {outer : List Env} {s : Shared} {H : Hp} {E : XK} (hr : Room 2 (A.deeper (envOfC "whole_scale" (defScope s_whole_scale) s.heap.objs.size f cdv))) (B : ∀ x, x ∈ blt → mg x = none) {Φ_common_bottom : Ph} (g_common_bottom : Kn Pg w K mg base "common_bottom" 2 ["terms"] Φ_common_bottom) :
    PSs (cxOf CX0 Pg w K mg base ["web", "one", "other", "weight"] "whole_scale" (defScope s_whole_scale) f cdv A outer s H E).nox (defBody s_whole_scale) (t_whole_scale K Φ_common_bottom) :=
  (pss_one (ps_ret (pe_callD g_common_bottom (hr.mono (by decide)) (by rfl) (pa_cons (pe_lc (own := [("one", 1), ("other", 2), ("weight", 3)]) (g := (gTup K 3 (gCons (gName 1) (gCons (gName 2) (gCons (gName 3) gNil))))) (tt := tYes) rfl sc_whole_scale.nd (pi_tup (pe_ix ix_seq (pv 0) pe_int (fun _ _ => rfl))) (blkOk_by (own := [("one", 1), ("other", 2), ("weight", 3)]) (N := ["web", "one", "other", "weight"]) (sc := defScope s_whole_scale) (by decide +kernel)) (fun _ _ _ _ _ => (pg_tup rfl (pgs_cons (pg_name (i := 1) sc_whole_scale.nd rfl (by first | exact .inl rfl | exact .inr rfl)) (pgs_cons (pg_name (i := 2) sc_whole_scale.nd rfl (by first | exact .inl rfl | exact .inr rfl)) (pgs_cons (pg_name (i := 3) sc_whole_scale.nd rfl (by first | exact .inl rfl | exact .inr rfl)) pgs_nil))))) (fun _ _ _ _ _ => pts_nil) (fun _ _ _ _ _ => (pv 3))) pa_nil))))
def t_whole_weights (K : PySem.W.Frag) (Φ_whole_scale : Ph) : TS := (tSeq (tAsg (tCall (SpD K Φ_whole_scale) [] E0 (tCons (tVar 0) tNil)) (gName 1))
    (tRet (tLc (iTup K (tOp (rIx K) (tVar 0) (tC (.int 1)))) (gTup K 3 (gCons (gName 2) (gCons (gName 3) (gCons (gTup K 2 (gCons (gName 4) (gCons (gName 5) gNil))) gNil)))) tYes (tOp rMulX (tVar 4) (tOp rDivX (tVar 1) (tVar 5))) [2, 3, 4, 5])))
theorem dv_whole_weights {f : Addr} {cdv : Value} {A : Around} {outer : List Env} {s : Shared} {H : Hp} {E : XK} (hr : Room 3 (A.deeper (envOfC "whole_weights" (defScope s_whole_weights) s.heap.objs.size f cdv))) (B : ∀ x, x ∈ blt → mg x = none) {Φ_whole_scale : Ph} (g_whole_scale : Kn Pg w K mg base "whole_scale" 3 ["web"] Φ_whole_scale) :
    PSs (cxOf CX0 Pg w K mg base ["web", "scale", "one", "other", "top", "bottom"] "whole_weights" (defScope s_whole_weights) f cdv A outer s H E).nox (defBody s_whole_weights) (t_whole_weights K Φ_whole_scale) :=
  (pss_cons (ps_set (i := 1) sc_whole_weights.nd rfl (by first | exact .inl rfl | exact .inr rfl) (pe_callD g_whole_scale (hr.mono (by decide)) (by rfl) (pa_cons (pv 0) pa_nil)))
      (pss_one (ps_ret (pe_lc (own := [("one", 2), ("other", 3), ("top", 4), ("bottom", 5)]) (g := (gTup K 3 (gCons (gName 2) (gCons (gName 3) (gCons (gTup K 2 (gCons (gName 4) (gCons (gName 5) gNil))) gNil))))) (tt := tYes) rfl sc_whole_weights.nd (pi_tup (pe_ix ix_seq (pv 0) pe_int (fun _ _ => rfl))) (blkOk_by (own := [("one", 2), ("other", 3), ("top", 4), ("bottom", 5)]) (N := ["web", "scale", "one", "other", "top", "bottom"]) (sc := defScope s_whole_weights) (by decide +kernel)) (fun _ _ _ _ _ => (pg_tup rfl (pgs_cons (pg_name (i := 2) sc_whole_weights.nd rfl (by first | exact .inl rfl | exact .inr rfl)) (pgs_cons (pg_name (i := 3) sc_whole_weights.nd rfl (by first | exact .inl rfl | exact .inr rfl)) (pgs_cons (pg_tup rfl (pgs_cons (pg_name (i := 4) sc_whole_weights.nd rfl (by first | exact .inl rfl | exact .inr rfl)) (pgs_cons (pg_name (i := 5) sc_whole_weights.nd rfl (by first | exact .inl rfl | exact .inr rfl)) pgs_nil))) pgs_nil))))) (fun _ _ _ _ _ => pts_nil) (fun _ _ _ _ _ => (pe_op op_mulX (pv 4) (pe_op op_fdivX (pv 1) (pv 5))))))))
def t_ties_at (K : PySem.W.Frag) (Φ_whole_weights : Ph) : TS := (tSeq (tAsg (tLc (iRng1 (tCons (tOp (rIx K) (tVar 0) (tC (.int 0))) tNil)) (gName 2) tYes (tLst tNil) [2]) (gName 1))
    (tSeq (tFor (iZipM K (tCons (tOp (rIx K) (tVar 0) (tC (.int 1))) (tCons (tCall (SpD K Φ_whole_weights) [] E0 (tCons (tVar 0) tNil)) tNil))) (gTup K 2 (gCons (gTup K 3 (gCons (gName 3) (gCons (gName 4) (gCons (gName 5) gNil)))) (gCons (gName 6) gNil))) (tSeq (tDrop (tBM K "list" rAppend (tOp (rIx K) (tVar 1) (tVar 3)) (tCons (tTup (tCons (tVar 4) (tCons (tVar 6) tNil))) tNil)))
    (tDrop (tBM K "list" rAppend (tOp (rIx K) (tVar 1) (tVar 4)) (tCons (tTup (tCons (tVar 3) (tCons (tVar 6) tNil))) tNil)))))
    (tRet (tVar 1))))
theorem dv_ties_at {f : Addr} {cdv : Value} {A : Around} {outer : List Env} {s : Shared} {H : Hp} {E : XK} (hr : Room 4 (A.deeper (envOfC "ties_at" (defScope s_ties_at) s.heap.objs.size f cdv))) (B : ∀ x, x ∈ blt → mg x = none) {Φ_whole_weights : Ph} (g_whole_weights : Kn Pg w K mg base "whole_weights" 4 ["web"] Φ_whole_weights) :
    PSs (cxOf CX0 Pg w K mg base ["web", "near", "point", "one", "other", "weight", "whole"] "ties_at" (defScope s_ties_at) f cdv A outer s H E).nox (defBody s_ties_at) (t_ties_at K Φ_whole_weights) :=
  (pss_cons (ps_setLc (i := 1) (own := [("point", 2)]) (g := (gName 2)) (tt := tYes) rfl sc_ties_at.nd rfl rfl (sw_true rfl rfl rfl (by decide +kernel)) (pi_range1 (by rfl) (B "range" (by decide)) (pa_cons (pe_ix ix_seq (pv 0) pe_int (fun _ _ => rfl)) pa_nil)) (blkOk_by (own := [("point", 2)]) (N := ["web", "near", "point", "one", "other", "weight", "whole"]) (sc := defScope s_ties_at) (by decide +kernel)) (fun _ _ _ _ _ => (pg_name (i := 2) sc_ties_at.nd rfl (by first | exact .inl rfl | exact .inr rfl))) (fun _ _ _ _ _ => pts_nil) (fun _ _ _ _ _ => (pe_lst pa_nil)))
      (pss_cons (ps_for PassesOwn.never rfl (pi_zipM (by rfl) (B "zip" (by decide)) (pa_cons (pe_ix ix_seq (pv 0) pe_int (fun _ _ => rfl)) (pa_cons (pe_callD g_whole_weights (hr.mono (by decide)) (by rfl) (pa_cons (pv 0) pa_nil)) pa_nil))) (pg_tup rfl (pgs_cons (pg_tup rfl (pgs_cons (pg_name (i := 3) sc_ties_at.nd rfl (by first | exact .inl rfl | exact .inr rfl)) (pgs_cons (pg_name (i := 4) sc_ties_at.nd rfl (by first | exact .inl rfl | exact .inr rfl)) (pgs_cons (pg_name (i := 5) sc_ties_at.nd rfl (by first | exact .inl rfl | exact .inr rfl)) pgs_nil)))) (pgs_cons (pg_name (i := 6) sc_ties_at.nd rfl (by first | exact .inl rfl | exact .inr rfl)) pgs_nil))) (pss_cons (ps_expr (pe_bm PySem.F.plainAttrs_list PySem.F.slot_list_append PySem.F.type_list_append mt_append (pe_ix ix_seq (pv 1) (pv 3) (fun _ _ => rfl)) (pa_cons (pe_tup (pa_cons (pv 4) (pa_cons (pv 6) pa_nil))) pa_nil)))
      (pss_one (ps_expr (pe_bm PySem.F.plainAttrs_list PySem.F.slot_list_append PySem.F.type_list_append mt_append (pe_ix ix_seq (pv 1) (pv 4) (fun _ _ => rfl)) (pa_cons (pe_tup (pa_cons (pv 3) (pa_cons (pv 6) pa_nil))) pa_nil))))))
      (pss_one (ps_ret (pv 1)))))
def t_greedy (K : PySem.W.Frag) (Φ_ties_at : Ph) : TS := (tSeq (tAsg (tCall (SpD K Φ_ties_at) [] E0 (tCons (tVar 0) tNil)) (gName 1))
    (tSeq (tAsg (tLst tNil) (gName 2))
    (tSeq (tFor (iRng1 (tCons (tOp (rIx K) (tVar 0) (tC (.int 0))) tNil)) (gName 3) (tSeq (tAsg (tLc (iList K (tOp (rIx K) (tVar 1) (tVar 3))) (gTup K 2 (gCons (gName 7) (gCons (gName 8) gNil))) (tTest (tOp rLtI (tVar 7) (tVar 3))) (tTup (tCons (tVar 7) (tCons (tVar 8) tNil))) [7, 8]) (gName 4))
    (tSeq (tAsg (tCB (rSum K) (tCons (tLc (iList K (tVar 4)) (gTup K 2 (gCons (gName 7) (gCons (gName 8) gNil))) (tTest (tOp (rEqD K) (tOp (rIx K) (tVar 2) (tVar 7)) (tC (.int 0)))) (tVar 8) [7, 8]) tNil)) (gName 5))
    (tSeq (tAsg (tCB (rSum K) (tCons (tLc (iList K (tVar 4)) (gTup K 2 (gCons (gName 7) (gCons (gName 8) gNil))) (tTest (tOp (rEqD K) (tOp (rIx K) (tVar 2) (tVar 7)) (tC (.int 1)))) (tVar 8) [7, 8]) tNil)) (gName 6))
    (tDrop (tBM K "list" rAppend (tVar 2) (tCons (tIf (tTest (tOp rGtI (tVar 5) (tVar 6))) (tC (.int 1)) (tC (.int 0))) tNil)))))))
    (tRet (tCB (rTupQ K) (tCons (tVar 2) tNil))))))
theorem dv_greedy {f : Addr} {cdv : Value} {A : Around} {outer : List Env} {s : Shared} {H : Hp} {E : XK} (hr : Room 5 (A.deeper (envOfC "greedy" (defScope s_greedy) s.heap.objs.size f cdv))) (B : ∀ x, x ∈ blt → mg x = none) {Φ_ties_at : Ph} (g_ties_at : Kn Pg w K mg base "ties_at" 5 ["web"] Φ_ties_at) :
    PSs (cxOf CX0 Pg w K mg base ["web", "near", "bits", "point", "before", "with_one", "with_zero", "other", "weight"] "greedy" (defScope s_greedy) f cdv A outer s H E).nox (defBody s_greedy) (t_greedy K Φ_ties_at) :=
  (pss_cons (ps_set (i := 1) sc_greedy.nd rfl (by first | exact .inl rfl | exact .inr rfl) (pe_callD g_ties_at (hr.mono (by decide)) (by rfl) (pa_cons (pv 0) pa_nil)))
      (pss_cons (ps_set (i := 2) sc_greedy.nd rfl (by first | exact .inl rfl | exact .inr rfl) (pe_lst pa_nil))
      (pss_cons (ps_for PassesOwn.never rfl (pi_range1 (by rfl) (B "range" (by decide)) (pa_cons (pe_ix ix_seq (pv 0) pe_int (fun _ _ => rfl)) pa_nil)) (pg_name (i := 3) sc_greedy.nd rfl (by first | exact .inl rfl | exact .inr rfl)) (pss_cons (ps_setLc (i := 4) (own := [("other", 7), ("weight", 8)]) (g := (gTup K 2 (gCons (gName 7) (gCons (gName 8) gNil)))) (tt := (tTest (tOp rLtI (tVar 7) (tVar 3)))) rfl sc_greedy.nd rfl rfl (sw_true rfl rfl rfl (by decide +kernel)) (pi_list (pe_ix ix_seq (pv 1) (pv 3) (fun _ _ => rfl))) (blkOk_by (own := [("other", 7), ("weight", 8)]) (N := ["web", "near", "bits", "point", "before", "with_one", "with_zero", "other", "weight"]) (sc := defScope s_greedy) (by decide +kernel)) (fun _ _ _ _ _ => (pg_tup rfl (pgs_cons (pg_name (i := 7) sc_greedy.nd rfl (by first | exact .inl rfl | exact .inr rfl)) (pgs_cons (pg_name (i := 8) sc_greedy.nd rfl (by first | exact .inl rfl | exact .inr rfl)) pgs_nil)))) (fun _ _ _ _ _ => (pts_one (pt_cmpR op_lt (pv 7) (pv 3) (nomark _)))) (fun _ _ _ _ _ => (pe_tup (pa_cons (pv 7) (pa_cons (pv 8) pa_nil)))))
      (pss_cons (ps_set (i := 5) sc_greedy.nd rfl (by first | exact .inl rfl | exact .inr rfl) (pe_callB (cr_sum rfl) (by rfl) (B "sum" (by decide)) (by decide +kernel) (pa_cons (pe_lc (own := [("other", 7), ("weight", 8)]) (g := (gTup K 2 (gCons (gName 7) (gCons (gName 8) gNil)))) (tt := (tTest (tOp (rEqD K) (tOp (rIx K) (tVar 2) (tVar 7)) (tC (.int 0))))) rfl sc_greedy.nd (pi_list (pv 4)) (blkOk_by (own := [("other", 7), ("weight", 8)]) (N := ["web", "near", "bits", "point", "before", "with_one", "with_zero", "other", "weight"]) (sc := defScope s_greedy) (by decide +kernel)) (fun _ _ _ _ _ => (pg_tup rfl (pgs_cons (pg_name (i := 7) sc_greedy.nd rfl (by first | exact .inl rfl | exact .inr rfl)) (pgs_cons (pg_name (i := 8) sc_greedy.nd rfl (by first | exact .inl rfl | exact .inr rfl)) pgs_nil)))) (fun _ _ _ _ _ => (pts_one (pt_cmpR (op_eqD hr.units) (pe_ix ix_seq (pv 2) (pv 7) (fun _ _ => rfl)) pe_int (nomark _)))) (fun _ _ _ _ _ => (pv 8))) pa_nil)))
      (pss_cons (ps_set (i := 6) sc_greedy.nd rfl (by first | exact .inl rfl | exact .inr rfl) (pe_callB (cr_sum rfl) (by rfl) (B "sum" (by decide)) (by decide +kernel) (pa_cons (pe_lc (own := [("other", 7), ("weight", 8)]) (g := (gTup K 2 (gCons (gName 7) (gCons (gName 8) gNil)))) (tt := (tTest (tOp (rEqD K) (tOp (rIx K) (tVar 2) (tVar 7)) (tC (.int 1))))) rfl sc_greedy.nd (pi_list (pv 4)) (blkOk_by (own := [("other", 7), ("weight", 8)]) (N := ["web", "near", "bits", "point", "before", "with_one", "with_zero", "other", "weight"]) (sc := defScope s_greedy) (by decide +kernel)) (fun _ _ _ _ _ => (pg_tup rfl (pgs_cons (pg_name (i := 7) sc_greedy.nd rfl (by first | exact .inl rfl | exact .inr rfl)) (pgs_cons (pg_name (i := 8) sc_greedy.nd rfl (by first | exact .inl rfl | exact .inr rfl)) pgs_nil)))) (fun _ _ _ _ _ => (pts_one (pt_cmpR (op_eqD hr.units) (pe_ix ix_seq (pv 2) (pv 7) (fun _ _ => rfl)) pe_int (nomark _)))) (fun _ _ _ _ _ => (pv 8))) pa_nil)))
      (pss_one (ps_expr (pe_bm PySem.F.plainAttrs_list PySem.F.slot_list_append PySem.F.type_list_append mt_append (pv 2) (pa_cons (pe_ifExp (pt_cmpR op_gt (pv 5) (pv 6) (nomark _)) pe_int pe_int) pa_nil))))))))
      (pss_one (ps_ret (pe_callTy call_tuple_of (by rfl) (B "tuple" (by decide)) (by decide +kernel) (pa_cons (pv 2) pa_nil)))))))
def t__law_cell_at (K : PySem.W.Frag) : TS := (tSeq (tIfS (tTest (tOp rLtI (tVar 1) (tCB (rLenQ K) (tCons (tVar 0) tNil)))) (tRet (tOp (rIx K) (tVar 0) (tVar 1))) tNext)
    (tRet (tC (.int 0))))
theorem dv__law_cell_at {f : Addr} {cdv : Value} {A : Around} {outer : List Env} {s : Shared} {H : Hp} {E : XK} (hr : Room 0 (A.deeper (envOfC "_law_cell_at" (defScope s__law_cell_at) s.heap.objs.size f cdv))) (B : ∀ x, x ∈ blt → mg x = none) :
    PSs (cxOf CX0 Pg w K mg base ["_law_script", "_law_k"] "_law_cell_at" (defScope s__law_cell_at) f cdv A outer s H E).nox (defBody s__law_cell_at) (t__law_cell_at K) :=
  (pss_cons (ps_if (pt_cmpR op_lt (pv 1) (pe_callB call_len_seq (by rfl) (B "len" (by decide)) (by decide +kernel) (pa_cons (pv 0) pa_nil)) (nomark _)) (pss_one (ps_ret (pe_ix ix_seq (pv 0) (pv 1) (fun _ _ => rfl)))) pss_nil)
      (pss_one (ps_ret pe_int)))
def t__law_stream (K : PySem.W.Frag) : TS := (tSeq (tAsg (tLst tNil) (gName 2))
    (tSeq (tAsg (tCB rAbs (tCons (tVar 0) tNil)) (gName 3))
    (tSeq (tFor (iRng1 (tCons (tVar 1) tNil)) (gName 4) (tSeq (tDrop (tBM K "list" rAppend (tVar 2) (tCons (tOp rModN (tVar 3) (tC (.int 1000003))) tNil)))
    (tAsg (tOp rDivX (tVar 3) (tC (.int 1000003))) (gName 3))))
    (tSeq (tIfS (tTest (tOp rGtI (tVar 3) (tC (.int 0)))) (tRet (tVar 2)) tNext)
    (tSeq (tAsg (tLst tNil) (gName 5))
    (tSeq (tAsg (tOp rAddI (tOp rModN (tVar 0) (tC (.int 2147483647))) (tC (.int 48271))) (gName 6))
    (tSeq (tAsg (tOp rAddI (tOp rModN (tVar 0) (tC (.int 2147483629))) (tC (.int 16807))) (gName 7))
    (tSeq (tFor (iRng1 (tCons (tVar 1) tNil)) (gName 4) (tSeq (tAsg (tOp rModN (tOp rMulI (tVar 6) (tC (.int 48271))) (tC (.int 2147483647))) (gName 6))
    (tSeq (tAsg (tOp rModN (tOp rAddI (tOp rMulI (tVar 7) (tC (.int 69621))) (tVar 4)) (tC (.int 2147483629))) (gName 7))
    (tDrop (tBM K "list" rAppend (tVar 5) (tCons (tOp rDivX (tOp rAddI (tVar 6) (tVar 7)) (tC (.int 7))) tNil))))))
    (tRet (tVar 5))))))))))
theorem dv__law_stream {f : Addr} {cdv : Value} {A : Around} {outer : List Env} {s : Shared} {H : Hp} {E : XK} (hr : Room 0 (A.deeper (envOfC "_law_stream" (defScope s__law_stream) s.heap.objs.size f cdv))) (B : ∀ x, x ∈ blt → mg x = none) :
    PSs (cxOf CX0 Pg w K mg base ["_law_cell", "_law_many", "_law_digits", "_law_left", "_law_k", "_law_found", "_law_number", "_law_other"] "_law_stream" (defScope s__law_stream) f cdv A outer s H E).nox (defBody s__law_stream) (t__law_stream K) :=
  (pss_cons (ps_set (i := 2) sc__law_stream.nd rfl (by first | exact .inl rfl | exact .inr rfl) (pe_lst pa_nil))
      (pss_cons (ps_set (i := 3) sc__law_stream.nd rfl (by first | exact .inl rfl | exact .inr rfl) (pe_callB call_abs (by rfl) (B "abs" (by decide)) (by decide +kernel) (pa_cons (pv 0) pa_nil)))
      (pss_cons (ps_for PassesOwn.never rfl (pi_range1 (by rfl) (B "range" (by decide)) (pa_cons (pv 1) pa_nil)) (pg_name (i := 4) sc__law_stream.nd rfl (by first | exact .inl rfl | exact .inr rfl)) (pss_cons (ps_expr (pe_bm PySem.F.plainAttrs_list PySem.F.slot_list_append PySem.F.type_list_append mt_append (pv 2) (pa_cons (pe_op op_modN (pv 3) pe_int) pa_nil)))
      (pss_one (ps_set (i := 3) sc__law_stream.nd rfl (by first | exact .inl rfl | exact .inr rfl) (pe_op op_fdivX (pv 3) pe_int)))))
      (pss_cons (ps_if (pt_cmpR op_gt (pv 3) pe_int (nomark _)) (pss_one (ps_ret (pv 2))) pss_nil)
      (pss_cons (ps_set (i := 5) sc__law_stream.nd rfl (by first | exact .inl rfl | exact .inr rfl) (pe_lst pa_nil))
      (pss_cons (ps_set (i := 6) sc__law_stream.nd rfl (by first | exact .inl rfl | exact .inr rfl) (pe_op op_add (pe_op op_modN (pv 0) pe_int) pe_int))
      (pss_cons (ps_set (i := 7) sc__law_stream.nd rfl (by first | exact .inl rfl | exact .inr rfl) (pe_op op_add (pe_op op_modN (pv 0) pe_int) pe_int))
      (pss_cons (ps_for PassesOwn.never rfl (pi_range1 (by rfl) (B "range" (by decide)) (pa_cons (pv 1) pa_nil)) (pg_name (i := 4) sc__law_stream.nd rfl (by first | exact .inl rfl | exact .inr rfl)) (pss_cons (ps_set (i := 6) sc__law_stream.nd rfl (by first | exact .inl rfl | exact .inr rfl) (pe_op op_modN (pe_op op_mul (pv 6) pe_int) pe_int))
      (pss_cons (ps_set (i := 7) sc__law_stream.nd rfl (by first | exact .inl rfl | exact .inr rfl) (pe_op op_modN (pe_op op_add (pe_op op_mul (pv 7) pe_int) (pv 4)) pe_int))
      (pss_one (ps_expr (pe_bm PySem.F.plainAttrs_list PySem.F.slot_list_append PySem.F.type_list_append mt_append (pv 5) (pa_cons (pe_op op_fdivX (pe_op op_add (pv 6) (pv 7)) pe_int) pa_nil)))))))
      (pss_one (ps_ret (pv 5)))))))))))
def t__law_take (K : PySem.W.Frag) : TS := (tSeq (tIfS (tTest (tOp (rEqD K) (tCB (rLenQ K) (tCons (tVar 0) tNil)) (tC (.int 0)))) (tRet (tC (.int 0))) tNext)
    (tRet (tBM0 K "list" rPop (tVar 0))))
theorem dv__law_take {f : Addr} {cdv : Value} {A : Around} {outer : List Env} {s : Shared} {H : Hp} {E : XK} (hr : Room 0 (A.deeper (envOfC "_law_take" (defScope s__law_take) s.heap.objs.size f cdv))) (B : ∀ x, x ∈ blt → mg x = none) :
    PSs (cxOf CX0 Pg w K mg base ["_law_xs"] "_law_take" (defScope s__law_take) f cdv A outer s H E).nox (defBody s__law_take) (t__law_take K) :=
  (pss_cons (ps_if (pt_cmpR (op_eqD hr.units) (pe_callB call_len_seq (by rfl) (B "len" (by decide)) (by decide +kernel) (pa_cons (pv 0) pa_nil)) pe_int (nomark _)) (pss_one (ps_ret pe_int)) pss_nil)
      (pss_one (ps_ret (pe_bm0 PySem.F.plainAttrs_list PySem.F.slot_list_pop PySem.F.type_list_pop mt_pop (pv 0)))))
def t__law_reduced (K : PySem.W.Frag) : TS := (tSeq (tAsg (tCB rAbs (tCons (tVar 0) tNil)) (gName 2))
    (tSeq (tAsg (tVar 1) (gName 3))
    (tSeq (tWhile (tTest (tOp (rNeD K) (tVar 3) (tC (.int 0)))) (tPar 2 3 (tCons (tVar 3) (tCons (tOp rModN (tVar 2) (tVar 3)) tNil))))
    (tRet (tTup (tCons (tOp rDivX (tVar 0) (tVar 2)) (tCons (tOp rDivX (tVar 1) (tVar 2)) tNil)))))))
theorem dv__law_reduced {f : Addr} {cdv : Value} {A : Around} {outer : List Env} {s : Shared} {H : Hp} {E : XK} (hr : Room 0 (A.deeper (envOfC "_law_reduced" (defScope s__law_reduced) s.heap.objs.size f cdv))) (B : ∀ x, x ∈ blt → mg x = none) :
    PSs (cxOf CX0 Pg w K mg base ["_law_top", "_law_bottom", "_law_one", "_law_other"] "_law_reduced" (defScope s__law_reduced) f cdv A outer s H E).nox (defBody s__law_reduced) (t__law_reduced K) :=
  (pss_cons (ps_set (i := 2) sc__law_reduced.nd rfl (by first | exact .inl rfl | exact .inr rfl) (pe_callB call_abs (by rfl) (B "abs" (by decide)) (by decide +kernel) (pa_cons (pv 0) pa_nil)))
      (pss_cons (ps_set (i := 3) sc__law_reduced.nd rfl (by first | exact .inl rfl | exact .inr rfl) (pv 1))
      (pss_cons (ps_while PassesOwn.never (pt_cmpR (op_neD hr.units) (pv 3) pe_int (nomark _)) (pss_one (ps_par (by rfl) sc__law_reduced.nd (i := 2) (j := 3) rfl rfl (by decide) rfl rfl (pa_cons (pv 3) (pa_cons (pe_op op_modN (pv 2) (pv 3)) pa_nil)) (by rfl))))
      (pss_one (ps_ret (pe_tup (pa_cons (pe_op op_fdivX (pv 0) (pv 2)) (pa_cons (pe_op op_fdivX (pv 1) (pv 2)) pa_nil))))))))
def t__law_weight (K : PySem.W.Frag) (Φ__law_reduced : Ph) : TS := (tSeq (tAsg (tOp rModN (tVar 0) (tC (.int 8))) (gName 1))
    (tSeq (tAsg (tOp rDivX (tVar 0) (tC (.int 8))) (gName 0))
    (tSeq (tIfS (tTest (tOp (rEqD K) (tVar 1) (tC (.int 0)))) (tRet (tTup (tCons (tC (.int 0)) (tCons (tC (.int 1)) tNil)))) tNext)
    (tSeq (tIfS (tTest (tOp rLtI (tVar 1) (tC (.int 4)))) (tRet (tTup (tCons (tOp rSubI (tOp rModN (tVar 0) (tC (.int 9))) (tC (.int 4))) (tCons (tC (.int 1)) tNil)))) tNext)
    (tSeq (tIfS (tTest (tOp rLtI (tVar 1) (tC (.int 7)))) (tRet (tCall (SpD K Φ__law_reduced) [] E0 (tCons (tOp rSubI (tOp rModN (tVar 0) (tC (.int 13))) (tC (.int 6))) (tCons (tOp rAddI (tC (.int 1)) (tOp rModN (tOp rDivX (tVar 0) (tC (.int 13))) (tC (.int 4)))) tNil)))) tNext)
    (tSeq (tAsg (tOp rSubI (tOp rPowI (tC (.int 10)) (tC (.int 9))) (tOp rModN (tOp rDivX (tVar 0) (tC (.int 2))) (tC (.int 3)))) (gName 2))
    (tSeq (tIfS (tTest (tOp (rEqD K) (tOp rModN (tVar 0) (tC (.int 2))) (tC (.int 0)))) (tAsg (tOp rSubI (tC (.int 0)) (tVar 2)) (gName 2)) tNext)
    (tRet (tCall (SpD K Φ__law_reduced) [] E0 (tCons (tVar 2) (tCons (tOp rSubI (tC (.int 1000)) (tOp rModN (tOp rDivX (tVar 0) (tC (.int 6))) (tC (.int 4)))) tNil)))))))))))
theorem dv__law_weight {f : Addr} {cdv : Value} {A : Around} {outer : List Env} {s : Shared} {H : Hp} {E : XK} (hr : Room 1 (A.deeper (envOfC "_law_weight" (defScope s__law_weight) s.heap.objs.size f cdv))) (B : ∀ x, x ∈ blt → mg x = none) {Φ__law_reduced : Ph} (g__law_reduced : Kn Pg w K mg base "_law_reduced" 1 ["_law_top", "_law_bottom"] Φ__law_reduced) :
    PSs (cxOf CX0 Pg w K mg base ["_law_number", "_law_way", "_law_far"] "_law_weight" (defScope s__law_weight) f cdv A outer s H E).nox (defBody s__law_weight) (t__law_weight K Φ__law_reduced) :=
  (pss_cons (ps_set (i := 1) sc__law_weight.nd rfl (by first | exact .inl rfl | exact .inr rfl) (pe_op op_modN (pv 0) pe_int))
      (pss_cons (ps_set (i := 0) sc__law_weight.nd rfl (by first | exact .inl rfl | exact .inr rfl) (pe_op op_fdivX (pv 0) pe_int))
      (pss_cons (ps_if (pt_cmpR (op_eqD hr.units) (pv 1) pe_int (nomark _)) (pss_one (ps_ret (pe_tup (pa_cons pe_int (pa_cons pe_int pa_nil))))) pss_nil)
      (pss_cons (ps_if (pt_cmpR op_lt (pv 1) pe_int (nomark _)) (pss_one (ps_ret (pe_tup (pa_cons (pe_op op_sub (pe_op op_modN (pv 0) pe_int) pe_int) (pa_cons pe_int pa_nil))))) pss_nil)
      (pss_cons (ps_if (pt_cmpR op_lt (pv 1) pe_int (nomark _)) (pss_one (ps_ret (pe_callD g__law_reduced (hr.mono (by decide)) (by rfl) (pa_cons (pe_op op_sub (pe_op op_modN (pv 0) pe_int) pe_int) (pa_cons (pe_op op_add pe_int (pe_op op_modN (pe_op op_fdivX (pv 0) pe_int) pe_int)) pa_nil))))) pss_nil)
      (pss_cons (ps_set (i := 2) sc__law_weight.nd rfl (by first | exact .inl rfl | exact .inr rfl) (pe_op op_sub (pe_op op_pow pe_int pe_int) (pe_op op_modN (pe_op op_fdivX (pv 0) pe_int) pe_int)))
      (pss_cons (ps_if (pt_cmpR (op_eqD hr.units) (pe_op op_modN (pv 0) pe_int) pe_int (nomark _)) (pss_one (ps_set (i := 2) sc__law_weight.nd rfl (by first | exact .inl rfl | exact .inr rfl) (pe_op op_sub pe_int (pv 2)))) pss_nil)
      (pss_one (ps_ret (pe_callD g__law_reduced (hr.mono (by decide)) (by rfl) (pa_cons (pv 2) (pa_cons (pe_op op_sub pe_int (pe_op op_modN (pe_op op_fdivX (pv 0) pe_int) pe_int)) pa_nil))))))))))))
def t__law_web (K : PySem.W.Frag) (Φ__law_take : Ph) (Φ__law_weight : Ph) : TS := (tSeq (tAsg (tOp rAddI (tC (.int 1)) (tOp rModN (tCall (SpD K Φ__law_take) [] E0 (tCons (tVar 0) tNil)) (tVar 1))) (gName 2))
    (tSeq (tAsg (tOp rModN (tCall (SpD K Φ__law_take) [] E0 (tCons (tVar 0) tNil)) (tC (.int 6))) (gName 3))
    (tSeq (tAsg (tLst tNil) (gName 4))
    (tSeq (tFor (iRng1 (tCons (tVar 2) tNil)) (gName 5) (tFor (iRng2 (tCons (tOp rAddI (tVar 5) (tC (.int 1))) (tCons (tVar 2) tNil))) (gName 6) (tSeq (tAsg (tCall (SpD K Φ__law_take) [] E0 (tCons (tVar 0) tNil)) (gName 7))
    (tIfS (tTest (tOp rLeI (tOp rModN (tVar 7) (tC (.int 6))) (tVar 3))) (tDrop (tBM K "list" rAppend (tVar 4) (tCons (tTup (tCons (tVar 5) (tCons (tVar 6) (tCons (tCall (SpD K Φ__law_weight) [] E0 (tCons (tOp rDivX (tVar 7) (tC (.int 6))) tNil)) tNil)))) tNil))) tNext))))
    (tRet (tTup (tCons (tVar 2) (tCons (tCB (rTupQ K) (tCons (tVar 4) tNil)) tNil))))))))
theorem dv__law_web {f : Addr} {cdv : Value} {A : Around} {outer : List Env} {s : Shared} {H : Hp} {E : XK} (hr : Room 2 (A.deeper (envOfC "_law_web" (defScope s__law_web) s.heap.objs.size f cdv))) (B : ∀ x, x ∈ blt → mg x = none) {Φ__law_take : Ph} {Φ__law_weight : Ph} (g__law_take : Kn Pg w K mg base "_law_take" 1 ["_law_xs"] Φ__law_take) (g__law_weight : Kn Pg w K mg base "_law_weight" 2 ["_law_number"] Φ__law_weight) :
    PSs (cxOf CX0 Pg w K mg base ["_law_xs", "_law_most", "_law_many", "_law_share", "_law_ties", "_law_a", "_law_b", "_law_number"] "_law_web" (defScope s__law_web) f cdv A outer s H E).nox (defBody s__law_web) (t__law_web K Φ__law_take Φ__law_weight) :=
  (pss_cons (ps_set (i := 2) sc__law_web.nd rfl (by first | exact .inl rfl | exact .inr rfl) (pe_op op_add pe_int (pe_op op_modN (pe_callD g__law_take (hr.mono (by decide)) (by rfl) (pa_cons (pv 0) pa_nil)) (pv 1))))
      (pss_cons (ps_set (i := 3) sc__law_web.nd rfl (by first | exact .inl rfl | exact .inr rfl) (pe_op op_modN (pe_callD g__law_take (hr.mono (by decide)) (by rfl) (pa_cons (pv 0) pa_nil)) pe_int))
      (pss_cons (ps_set (i := 4) sc__law_web.nd rfl (by first | exact .inl rfl | exact .inr rfl) (pe_lst pa_nil))
      (pss_cons (ps_for PassesOwn.never rfl (pi_range1 (by rfl) (B "range" (by decide)) (pa_cons (pv 2) pa_nil)) (pg_name (i := 5) sc__law_web.nd rfl (by first | exact .inl rfl | exact .inr rfl)) (pss_one (ps_for PassesOwn.never rfl (pi_range2 (by rfl) (B "range" (by decide)) (pa_cons (pe_op op_add (pv 5) pe_int) (pa_cons (pv 2) pa_nil))) (pg_name (i := 6) sc__law_web.nd rfl (by first | exact .inl rfl | exact .inr rfl)) (pss_cons (ps_set (i := 7) sc__law_web.nd rfl (by first | exact .inl rfl | exact .inr rfl) (pe_callD g__law_take (hr.mono (by decide)) (by rfl) (pa_cons (pv 0) pa_nil)))
      (pss_one (ps_if (pt_cmpR op_le (pe_op op_modN (pv 7) pe_int) (pv 3) (nomark _)) (pss_one (ps_expr (pe_bm PySem.F.plainAttrs_list PySem.F.slot_list_append PySem.F.type_list_append mt_append (pv 4) (pa_cons (pe_tup (pa_cons (pv 5) (pa_cons (pv 6) (pa_cons (pe_callD g__law_weight (hr.mono (by decide)) (by rfl) (pa_cons (pe_op op_fdivX (pv 7) pe_int) pa_nil)) pa_nil)))) pa_nil)))) pss_nil))))))
      (pss_one (ps_ret (pe_tup (pa_cons (pv 2) (pa_cons (pe_callTy call_tuple_of (by rfl) (B "tuple" (by decide)) (by decide +kernel) (pa_cons (pv 4) pa_nil)) pa_nil)))))))))
def t__law_great_web (K : PySem.W.Frag) (Φ__law_take : Ph) (Φ__law_weight : Ph) : TS := (tSeq (tAsg (tOp rSubI (tC (.int 60)) (tOp rModN (tCall (SpD K Φ__law_take) [] E0 (tCons (tVar 0) tNil)) (tC (.int 3)))) (gName 1))
    (tSeq (tAsg (tOp rAddI (tC (.int 1)) (tOp rModN (tCall (SpD K Φ__law_take) [] E0 (tCons (tVar 0) tNil)) (tC (.int 3)))) (gName 2))
    (tSeq (tAsg (tLst tNil) (gName 3))
    (tSeq (tFor (iRng1 (tCons (tVar 1) tNil)) (gName 4) (tFor (iRng2 (tCons (tVar 2) (tCons (tOp rAddI (tVar 2) (tC (.int 3))) tNil))) (gName 5) (tIfS (tAnd (tTest (tOp rLtI (tOp rAddI (tVar 4) (tVar 5)) (tVar 1))) (tTest (tOp rLtI (tCB (rLenQ K) (tCons (tVar 3) tNil)) (tC (.int 170))))) (tDrop (tBM K "list" rAppend (tVar 3) (tCons (tTup (tCons (tVar 4) (tCons (tOp rAddI (tVar 4) (tVar 5)) (tCons (tCall (SpD K Φ__law_weight) [] E0 (tCons (tCall (SpD K Φ__law_take) [] E0 (tCons (tVar 0) tNil)) tNil)) tNil)))) tNil))) tNext)))
    (tRet (tTup (tCons (tVar 1) (tCons (tCB (rTupQ K) (tCons (tVar 3) tNil)) tNil))))))))
theorem dv__law_great_web {f : Addr} {cdv : Value} {A : Around} {outer : List Env} {s : Shared} {H : Hp} {E : XK} (hr : Room 2 (A.deeper (envOfC "_law_great_web" (defScope s__law_great_web) s.heap.objs.size f cdv))) (B : ∀ x, x ∈ blt → mg x = none) {Φ__law_take : Ph} {Φ__law_weight : Ph} (g__law_take : Kn Pg w K mg base "_law_take" 1 ["_law_xs"] Φ__law_take) (g__law_weight : Kn Pg w K mg base "_law_weight" 2 ["_law_number"] Φ__law_weight) :
    PSs (cxOf CX0 Pg w K mg base ["_law_xs", "_law_many", "_law_step", "_law_ties", "_law_a", "_law_far"] "_law_great_web" (defScope s__law_great_web) f cdv A outer s H E).nox (defBody s__law_great_web) (t__law_great_web K Φ__law_take Φ__law_weight) :=
  (pss_cons (ps_set (i := 1) sc__law_great_web.nd rfl (by first | exact .inl rfl | exact .inr rfl) (pe_op op_sub pe_int (pe_op op_modN (pe_callD g__law_take (hr.mono (by decide)) (by rfl) (pa_cons (pv 0) pa_nil)) pe_int)))
      (pss_cons (ps_set (i := 2) sc__law_great_web.nd rfl (by first | exact .inl rfl | exact .inr rfl) (pe_op op_add pe_int (pe_op op_modN (pe_callD g__law_take (hr.mono (by decide)) (by rfl) (pa_cons (pv 0) pa_nil)) pe_int)))
      (pss_cons (ps_set (i := 3) sc__law_great_web.nd rfl (by first | exact .inl rfl | exact .inr rfl) (pe_lst pa_nil))
      (pss_cons (ps_for PassesOwn.never rfl (pi_range1 (by rfl) (B "range" (by decide)) (pa_cons (pv 1) pa_nil)) (pg_name (i := 4) sc__law_great_web.nd rfl (by first | exact .inl rfl | exact .inr rfl)) (pss_one (ps_for PassesOwn.never rfl (pi_range2 (by rfl) (B "range" (by decide)) (pa_cons (pv 2) (pa_cons (pe_op op_add (pv 2) pe_int) pa_nil))) (pg_name (i := 5) sc__law_great_web.nd rfl (by first | exact .inl rfl | exact .inr rfl)) (pss_one (ps_if (PW.pt (pw_and (pt_cmpR op_lt (pe_op op_add (pv 4) (pv 5)) (pv 1) (nomark _)) (pw_and1 (pt_cmpR op_lt (pe_callB call_len_seq (by rfl) (B "len" (by decide)) (by decide +kernel) (pa_cons (pv 3) pa_nil)) pe_int (nomark _))))) (pss_one (ps_expr (pe_bm PySem.F.plainAttrs_list PySem.F.slot_list_append PySem.F.type_list_append mt_append (pv 3) (pa_cons (pe_tup (pa_cons (pv 4) (pa_cons (pe_op op_add (pv 4) (pv 5)) (pa_cons (pe_callD g__law_weight (hr.mono (by decide)) (by rfl) (pa_cons (pe_callD g__law_take (hr.mono (by decide)) (by rfl) (pa_cons (pv 0) pa_nil)) pa_nil)) pa_nil)))) pa_nil)))) pss_nil)))))
      (pss_one (ps_ret (pe_tup (pa_cons (pv 1) (pa_cons (pe_callTy call_tuple_of (by rfl) (B "tuple" (by decide)) (by decide +kernel) (pa_cons (pv 3) pa_nil)) pa_nil)))))))))
def t__law_plus (K : PySem.W.Frag) (Φ__law_reduced : Ph) : TS := (tRet (tCall (SpD K Φ__law_reduced) [] E0 (tCons (tOp rAddI (tOp rMulX (tOp (rIx K) (tVar 0) (tC (.int 0))) (tOp (rIx K) (tVar 1) (tC (.int 1)))) (tOp rMulX (tOp (rIx K) (tVar 1) (tC (.int 0))) (tOp (rIx K) (tVar 0) (tC (.int 1))))) (tCons (tOp rMulX (tOp (rIx K) (tVar 0) (tC (.int 1))) (tOp (rIx K) (tVar 1) (tC (.int 1)))) tNil))))
theorem dv__law_plus {f : Addr} {cdv : Value} {A : Around} {outer : List Env} {s : Shared} {H : Hp} {E : XK} (hr : Room 1 (A.deeper (envOfC "_law_plus" (defScope s__law_plus) s.heap.objs.size f cdv))) (B : ∀ x, x ∈ blt → mg x = none) {Φ__law_reduced : Ph} (g__law_reduced : Kn Pg w K mg base "_law_reduced" 1 ["_law_top", "_law_bottom"] Φ__law_reduced) :
    PSs (cxOf CX0 Pg w K mg base ["_law_one", "_law_other"] "_law_plus" (defScope s__law_plus) f cdv A outer s H E).nox (defBody s__law_plus) (t__law_plus K Φ__law_reduced) :=
  (pss_one (ps_ret (pe_callD g__law_reduced (hr.mono (by decide)) (by rfl) (pa_cons (pe_op op_add (pe_op op_mulX (pe_ix ix_seq (pv 0) pe_int (fun _ _ => rfl)) (pe_ix ix_seq (pv 1) pe_int (fun _ _ => rfl))) (pe_op op_mulX (pe_ix ix_seq (pv 1) pe_int (fun _ _ => rfl)) (pe_ix ix_seq (pv 0) pe_int (fun _ _ => rfl)))) (pa_cons (pe_op op_mulX (pe_ix ix_seq (pv 0) pe_int (fun _ _ => rfl)) (pe_ix ix_seq (pv 1) pe_int (fun _ _ => rfl))) pa_nil)))))
def t__law_less (K : PySem.W.Frag) : TS := (tRet (tOp rLtI (tOp rMulX (tOp (rIx K) (tVar 0) (tC (.int 0))) (tOp (rIx K) (tVar 1) (tC (.int 1)))) (tOp rMulX (tOp (rIx K) (tVar 1) (tC (.int 0))) (tOp (rIx K) (tVar 0) (tC (.int 1))))))
theorem dv__law_less {f : Addr} {cdv : Value} {A : Around} {outer : List Env} {s : Shared} {H : Hp} {E : XK} (hr : Room 0 (A.deeper (envOfC "_law_less" (defScope s__law_less) s.heap.objs.size f cdv))) (B : ∀ x, x ∈ blt → mg x = none) :
    PSs (cxOf CX0 Pg w K mg base ["_law_one", "_law_other"] "_law_less" (defScope s__law_less) f cdv A outer s H E).nox (defBody s__law_less) (t__law_less K) :=
  (pss_one (ps_ret (pe_cmpR op_lt (pe_op op_mulX (pe_ix ix_seq (pv 0) pe_int (fun _ _ => rfl)) (pe_ix ix_seq (pv 1) pe_int (fun _ _ => rfl))) (pe_op op_mulX (pe_ix ix_seq (pv 1) pe_int (fun _ _ => rfl)) (pe_ix ix_seq (pv 0) pe_int (fun _ _ => rfl))) (nomark _))))
def t__law_cut_behind (K : PySem.W.Frag) (Φ__law_plus : Ph) : TS := (tSeq (tAsg (tTup (tCons (tC (.int 0)) (tCons (tC (.int 1)) tNil))) (gName 4))
    (tSeq (tFor (iTup K (tOp (rIx K) (tVar 0) (tC (.int 1)))) (gTup K 3 (gCons (gName 5) (gCons (gName 6) (gCons (gName 7) gNil)))) (tIfS (tAnd (tTest (tOp (rEqD K) (tVar 6) (tVar 2))) (tTest (tOp (rNeD K) (tOp (rIx K) (tVar 1) (tVar 5)) (tVar 3)))) (tAsg (tCall (SpD K Φ__law_plus) [] E0 (tCons (tVar 4) (tCons (tVar 7) tNil))) (gName 4)) tNext))
    (tRet (tVar 4))))
theorem dv__law_cut_behind {f : Addr} {cdv : Value} {A : Around} {outer : List Env} {s : Shared} {H : Hp} {E : XK} (hr : Room 2 (A.deeper (envOfC "_law_cut_behind" (defScope s__law_cut_behind) s.heap.objs.size f cdv))) (B : ∀ x, x ∈ blt → mg x = none) {Φ__law_plus : Ph} (g__law_plus : Kn Pg w K mg base "_law_plus" 2 ["_law_one", "_law_other"] Φ__law_plus) :
    PSs (cxOf CX0 Pg w K mg base ["_law_web_here", "_law_bits", "_law_point", "_law_bit", "_law_total", "_law_a", "_law_b", "_law_weight_here"] "_law_cut_behind" (defScope s__law_cut_behind) f cdv A outer s H E).nox (defBody s__law_cut_behind) (t__law_cut_behind K Φ__law_plus) :=
  (pss_cons (ps_set (i := 4) sc__law_cut_behind.nd rfl (by first | exact .inl rfl | exact .inr rfl) (pe_tup (pa_cons pe_int (pa_cons pe_int pa_nil))))
      (pss_cons (ps_for PassesOwn.never rfl (pi_tup (pe_ix ix_seq (pv 0) pe_int (fun _ _ => rfl))) (pg_tup rfl (pgs_cons (pg_name (i := 5) sc__law_cut_behind.nd rfl (by first | exact .inl rfl | exact .inr rfl)) (pgs_cons (pg_name (i := 6) sc__law_cut_behind.nd rfl (by first | exact .inl rfl | exact .inr rfl)) (pgs_cons (pg_name (i := 7) sc__law_cut_behind.nd rfl (by first | exact .inl rfl | exact .inr rfl)) pgs_nil)))) (pss_one (ps_if (PW.pt (pw_and (pt_cmpR (op_eqD hr.units) (pv 6) (pv 2) (nomark _)) (pw_and1 (pt_cmpR (op_neD hr.units) (pe_ix ix_seq (pv 1) (pv 5) (fun _ _ => rfl)) (pv 3) (nomark _))))) (pss_one (ps_set (i := 4) sc__law_cut_behind.nd rfl (by first | exact .inl rfl | exact .inr rfl) (pe_callD g__law_plus (hr.mono (by decide)) (by rfl) (pa_cons (pv 4) (pa_cons (pv 7) pa_nil))))) pss_nil)))
      (pss_one (ps_ret (pv 4)))))
def t__law_greedy (K : PySem.W.Frag) (Φ__law_less : Ph) (Φ__law_cut_behind : Ph) : TS := (tSeq (tAsg (tLst (tCons (tC (.int 0)) tNil)) (gName 1))
    (tSeq (tFor (iRng2 (tCons (tC (.int 1)) (tCons (tOp (rIx K) (tVar 0) (tC (.int 0))) tNil))) (gName 2) (tSeq (tAsg (tC (.int 0)) (gName 3))
    (tSeq (tIfS (L2.tB (tCall (SpD K Φ__law_less) [] E0 (tCons (tCall (SpD K Φ__law_cut_behind) [] E0 (tCons (tVar 0) (tCons (tVar 1) (tCons (tVar 2) (tCons (tC (.int 0)) tNil))))) (tCons (tCall (SpD K Φ__law_cut_behind) [] E0 (tCons (tVar 0) (tCons (tVar 1) (tCons (tVar 2) (tCons (tC (.int 1)) tNil))))) tNil)))) (tAsg (tC (.int 1)) (gName 3)) tNext)
    (tDrop (tBM K "list" rAppend (tVar 1) (tCons (tVar 3) tNil))))))
    (tRet (tCB (rTupQ K) (tCons (tVar 1) tNil)))))
theorem dv__law_greedy {f : Addr} {cdv : Value} {A : Around} {outer : List Env} {s : Shared} {H : Hp} {E : XK} (hr : Room 3 (A.deeper (envOfC "_law_greedy" (defScope s__law_greedy) s.heap.objs.size f cdv))) (B : ∀ x, x ∈ blt → mg x = none) {Φ__law_less : Ph} {Φ__law_cut_behind : Ph} (g__law_less : Kn Pg w K mg base "_law_less" 1 ["_law_one", "_law_other"] Φ__law_less) (g__law_cut_behind : Kn Pg w K mg base "_law_cut_behind" 3 ["_law_web_here", "_law_bits", "_law_point", "_law_bit"] Φ__law_cut_behind) :
    PSs (cxOf CX0 Pg w K mg base ["_law_web_here", "_law_bits", "_law_point", "_law_bit"] "_law_greedy" (defScope s__law_greedy) f cdv A outer s H E).nox (defBody s__law_greedy) (t__law_greedy K Φ__law_less Φ__law_cut_behind) :=
  (pss_cons (ps_set (i := 1) sc__law_greedy.nd rfl (by first | exact .inl rfl | exact .inr rfl) (pe_lst (pa_cons pe_int pa_nil)))
      (pss_cons (ps_for PassesOwn.never rfl (pi_range2 (by rfl) (B "range" (by decide)) (pa_cons pe_int (pa_cons (pe_ix ix_seq (pv 0) pe_int (fun _ _ => rfl)) pa_nil))) (pg_name (i := 2) sc__law_greedy.nd rfl (by first | exact .inl rfl | exact .inr rfl)) (pss_cons (ps_set (i := 3) sc__law_greedy.nd rfl (by first | exact .inl rfl | exact .inr rfl) pe_int)
      (pss_cons (ps_if (pt_val (pe_callD g__law_less (hr.mono (by decide)) (by rfl) (pa_cons (pe_callD g__law_cut_behind (hr.mono (by decide)) (by rfl) (pa_cons (pv 0) (pa_cons (pv 1) (pa_cons (pv 2) (pa_cons pe_int pa_nil))))) (pa_cons (pe_callD g__law_cut_behind (hr.mono (by decide)) (by rfl) (pa_cons (pv 0) (pa_cons (pv 1) (pa_cons (pv 2) (pa_cons pe_int pa_nil))))) pa_nil)))) (pss_one (ps_set (i := 3) sc__law_greedy.nd rfl (by first | exact .inl rfl | exact .inr rfl) pe_int)) pss_nil)
      (pss_one (ps_expr (pe_bm PySem.F.plainAttrs_list PySem.F.slot_list_append PySem.F.type_list_append mt_append (pv 1) (pa_cons (pv 3) pa_nil)))))))
      (pss_one (ps_ret (pe_callTy call_tuple_of (by rfl) (B "tuple" (by decide)) (by decide +kernel) (pa_cons (pv 1) pa_nil))))))
def t__law_half (K : PySem.W.Frag) (Φ__law_plus : Ph) (Φ__law_less : Ph) : TS := (tSeq (tAsg (tTup (tCons (tC (.int 0)) (tCons (tC (.int 1)) tNil))) (gName 2))
    (tSeq (tAsg (tTup (tCons (tC (.int 0)) (tCons (tC (.int 1)) tNil))) (gName 3))
    (tSeq (tFor (iTup K (tOp (rIx K) (tVar 0) (tC (.int 1)))) (gTup K 3 (gCons (gName 4) (gCons (gName 5) (gCons (gName 6) gNil)))) (tSeq (tAsg (tCall (SpD K Φ__law_plus) [] E0 (tCons (tVar 2) (tCons (tVar 6) tNil))) (gName 2))
    (tIfS (tTest (tOp (rNeD K) (tOp (rIx K) (tVar 1) (tVar 4)) (tOp (rIx K) (tVar 1) (tVar 5)))) (tAsg (tCall (SpD K Φ__law_plus) [] E0 (tCons (tVar 3) (tCons (tVar 6) tNil))) (gName 3)) tNext)))
    (tRet (tNotV (tCall (SpD K Φ__law_less) [] E0 (tCons (tCall (SpD K Φ__law_plus) [] E0 (tCons (tVar 3) (tCons (tVar 3) tNil))) (tCons (tVar 2) tNil))))))))
theorem dv__law_half {f : Addr} {cdv : Value} {A : Around} {outer : List Env} {s : Shared} {H : Hp} {E : XK} (hr : Room 2 (A.deeper (envOfC "_law_half" (defScope s__law_half) s.heap.objs.size f cdv))) (B : ∀ x, x ∈ blt → mg x = none) {Φ__law_plus : Ph} {Φ__law_less : Ph} (g__law_plus : Kn Pg w K mg base "_law_plus" 2 ["_law_one", "_law_other"] Φ__law_plus) (g__law_less : Kn Pg w K mg base "_law_less" 1 ["_law_one", "_law_other"] Φ__law_less) :
    PSs (cxOf CX0 Pg w K mg base ["_law_web_here", "_law_bits", "_law_whole", "_law_cut", "_law_a", "_law_b", "_law_weight_here"] "_law_half" (defScope s__law_half) f cdv A outer s H E).nox (defBody s__law_half) (t__law_half K Φ__law_plus Φ__law_less) :=
  (pss_cons (ps_set (i := 2) sc__law_half.nd rfl (by first | exact .inl rfl | exact .inr rfl) (pe_tup (pa_cons pe_int (pa_cons pe_int pa_nil))))
      (pss_cons (ps_set (i := 3) sc__law_half.nd rfl (by first | exact .inl rfl | exact .inr rfl) (pe_tup (pa_cons pe_int (pa_cons pe_int pa_nil))))
      (pss_cons (ps_for PassesOwn.never rfl (pi_tup (pe_ix ix_seq (pv 0) pe_int (fun _ _ => rfl))) (pg_tup rfl (pgs_cons (pg_name (i := 4) sc__law_half.nd rfl (by first | exact .inl rfl | exact .inr rfl)) (pgs_cons (pg_name (i := 5) sc__law_half.nd rfl (by first | exact .inl rfl | exact .inr rfl)) (pgs_cons (pg_name (i := 6) sc__law_half.nd rfl (by first | exact .inl rfl | exact .inr rfl)) pgs_nil)))) (pss_cons (ps_set (i := 2) sc__law_half.nd rfl (by first | exact .inl rfl | exact .inr rfl) (pe_callD g__law_plus (hr.mono (by decide)) (by rfl) (pa_cons (pv 2) (pa_cons (pv 6) pa_nil))))
      (pss_one (ps_if (pt_cmpR (op_neD hr.units) (pe_ix ix_seq (pv 1) (pv 4) (fun _ _ => rfl)) (pe_ix ix_seq (pv 1) (pv 5) (fun _ _ => rfl)) (nomark _)) (pss_one (ps_set (i := 3) sc__law_half.nd rfl (by first | exact .inl rfl | exact .inr rfl) (pe_callD g__law_plus (hr.mono (by decide)) (by rfl) (pa_cons (pv 3) (pa_cons (pv 6) pa_nil))))) pss_nil))))
      (pss_one (ps_ret (pe_not (pe_callD g__law_less (hr.mono (by decide)) (by rfl) (pa_cons (pe_callD g__law_plus (hr.mono (by decide)) (by rfl) (pa_cons (pv 3) (pa_cons (pv 3) pa_nil))) (pa_cons (pv 2) pa_nil)))))))))
def t__law_right (K : PySem.W.Frag) (Φ_greedy : Ph) (Φ__law_half : Ph) (Φ__law_greedy : Ph) : TS := (tSeq (tAsg (tCall (SpD K Φ_greedy) [] E0 (tCons (tVar 0) tNil)) (gName 1))
    (tSeq (tIfS (tOr (tNot (L2.tB (tCB (rIsi K) (tCons (tVar 1) (tCons (tC (.ty "tuple")) tNil))))) (tOr (tTest (tOp (rNeD K) (tVar 1) (tCall (SpD K Φ__law_greedy) [] E0 (tCons (tVar 0) tNil)))) (tNot (L2.tB (tCall (SpD K Φ__law_half) [] E0 (tCons (tVar 0) (tCons (tVar 1) tNil))))))) (tRet (tC (.bl false))) tNext)
    (tSeq (tFor (iTup K (tVar 1)) (gName 2) (tIfS (tOr (L2.tB (tCB (rIsi K) (tCons (tVar 2) (tCons (tC (.ty "bool")) tNil)))) (tNot (L2.tB (tCB (rIsi K) (tCons (tVar 2) (tCons (tC (.ty "int")) tNil)))))) (tRet (tC (.bl false))) tNext))
    (tRet (tOp (rEqD K) (tCall (SpD K Φ_greedy) [] E0 (tCons (tVar 0) tNil)) (tVar 1))))))
theorem dv__law_right {f : Addr} {cdv : Value} {A : Around} {outer : List Env} {s : Shared} {H : Hp} {E : XK} (hr : Room 6 (A.deeper (envOfC "_law_right" (defScope s__law_right) s.heap.objs.size f cdv))) (B : ∀ x, x ∈ blt → mg x = none) {Φ_greedy : Ph} {Φ__law_half : Ph} {Φ__law_greedy : Ph} (g_greedy : Kn Pg w K mg base "greedy" 6 ["web"] Φ_greedy) (g__law_half : Kn Pg w K mg base "_law_half" 3 ["_law_web_here", "_law_bits"] Φ__law_half) (g__law_greedy : Kn Pg w K mg base "_law_greedy" 4 ["_law_web_here"] Φ__law_greedy) :
    PSs (cxOf CX0 Pg w K mg base ["_law_web_here", "_law_found", "_law_bit"] "_law_right" (defScope s__law_right) f cdv A outer s H E).nox (defBody s__law_right) (t__law_right K Φ_greedy Φ__law_half Φ__law_greedy) :=
  (pss_cons (ps_set (i := 1) sc__law_right.nd rfl (by first | exact .inl rfl | exact .inr rfl) (pe_callD g_greedy (hr.mono (by decide)) (by rfl) (pa_cons (pv 0) pa_nil)))
      (pss_cons (ps_if (PW.pt (pw_or (pt_not (pt_val (pe_callB call_isi (by rfl) (B "isinstance" (by decide)) (by decide +kernel) (pa_cons (pv 1) (pa_cons (pe_bltn (by rfl) (B "tuple" (by decide)) (by decide +kernel) rfl) pa_nil))))) (pw_or (pt_cmpR (op_neD hr.units) (pv 1) (pe_callD g__law_greedy (hr.mono (by decide)) (by rfl) (pa_cons (pv 0) pa_nil)) (nomark _)) (pw_or1 (pt_not (pt_val (pe_callD g__law_half (hr.mono (by decide)) (by rfl) (pa_cons (pv 0) (pa_cons (pv 1) pa_nil))))))))) (pss_one (ps_ret pe_bl)) pss_nil)
      (pss_cons (ps_for PassesOwn.never rfl (pi_tup (pv 1)) (pg_name (i := 2) sc__law_right.nd rfl (by first | exact .inl rfl | exact .inr rfl)) (pss_one (ps_if (PW.pt (pw_or (pt_val (pe_callB call_isi (by rfl) (B "isinstance" (by decide)) (by decide +kernel) (pa_cons (pv 2) (pa_cons (pe_bltn (by rfl) (B "bool" (by decide)) (by decide +kernel) rfl) pa_nil)))) (pw_or1 (pt_not (pt_val (pe_callB call_isi (by rfl) (B "isinstance" (by decide)) (by decide +kernel) (pa_cons (pv 2) (pa_cons (pe_bltn (by rfl) (B "int" (by decide)) (by decide +kernel) rfl) pa_nil)))))))) (pss_one (ps_ret pe_bl)) pss_nil)))
      (pss_one (ps_ret (pe_cmpR (op_eqD hr.units) (pe_callD g_greedy (hr.mono (by decide)) (by rfl) (pa_cons (pv 0) pa_nil)) (pv 1) (nomark _)))))))
def t_law (K : PySem.W.Frag) (Φ__law_web : Ph) (Φ__law_stream : Ph) (Φ__law_cell_at : Ph) (Φ__law_right : Ph) (Φ__law_great_web : Ph) : TS := (tSeq (tFor (iRng1 (tCons (tCB rMaxI (tCons (tC (.int 4)) (tCons (tCB rMinI (tCons (tC (.int 8)) (tCons (tCB (rLenQ K) (tCons (tVar 0) tNil)) tNil))) tNil))) tNil)) (gName 1) (tSeq (tAsg (tCall (SpD K Φ__law_web) [] E0 (tCons (tCall (SpD K Φ__law_stream) [] E0 (tCons (tOp rAddI (tCall (SpD K Φ__law_cell_at) [] E0 (tCons (tVar 0) (tCons (tVar 1) tNil))) (tVar 1)) (tCons (tC (.int 40)) tNil))) (tCons (tC (.int 9)) tNil))) (gName 2))
    (tIfS (tNot (L2.tB (tCall (SpD K Φ__law_right) [] E0 (tCons (tVar 2) tNil)))) (tRet (tC (.bl false))) tNext)))
    (tRet (tCall (SpD K Φ__law_right) [] E0 (tCons (tCall (SpD K Φ__law_great_web) [] E0 (tCons (tCall (SpD K Φ__law_stream) [] E0 (tCons (tOp rAddI (tCall (SpD K Φ__law_cell_at) [] E0 (tCons (tVar 0) (tCons (tC (.int 0)) tNil))) (tC (.int 1))) (tCons (tC (.int 176)) tNil))) tNil)) tNil))))
theorem dv_law {f : Addr} {cdv : Value} {A : Around} {outer : List Env} {s : Shared} {H : Hp} {E : XK} (hr : Room 7 (A.deeper (envOfC "law" (defScope s_law) s.heap.objs.size f cdv))) (B : ∀ x, x ∈ blt → mg x = none) {Φ__law_web : Ph} {Φ__law_stream : Ph} {Φ__law_cell_at : Ph} {Φ__law_right : Ph} {Φ__law_great_web : Ph} (g__law_web : Kn Pg w K mg base "_law_web" 3 ["_law_xs", "_law_most"] Φ__law_web) (g__law_stream : Kn Pg w K mg base "_law_stream" 1 ["_law_cell", "_law_many"] Φ__law_stream) (g__law_cell_at : Kn Pg w K mg base "_law_cell_at" 1 ["_law_script", "_law_k"] Φ__law_cell_at) (g__law_right : Kn Pg w K mg base "_law_right" 7 ["_law_web_here"] Φ__law_right) (g__law_great_web : Kn Pg w K mg base "_law_great_web" 3 ["_law_xs"] Φ__law_great_web) :
    PSs (cxOf CX0 Pg w K mg base ["_law_script", "_law_k", "_law_web_here"] "law" (defScope s_law) f cdv A outer s H E).nox (defBody s_law) (t_law K Φ__law_web Φ__law_stream Φ__law_cell_at Φ__law_right Φ__law_great_web) :=
  (pss_cons (ps_for PassesOwn.never rfl (pi_range1 (by rfl) (B "range" (by decide)) (pa_cons (pe_callB (call_max2 rfl) (by rfl) (B "max" (by decide)) (by decide +kernel) (pa_cons pe_int (pa_cons (pe_callB (call_min2 rfl) (by rfl) (B "min" (by decide)) (by decide +kernel) (pa_cons pe_int (pa_cons (pe_callB call_len_seq (by rfl) (B "len" (by decide)) (by decide +kernel) (pa_cons (pv 0) pa_nil)) pa_nil))) pa_nil))) pa_nil)) (pg_name (i := 1) sc_law.nd rfl (by first | exact .inl rfl | exact .inr rfl)) (pss_cons (ps_set (i := 2) sc_law.nd rfl (by first | exact .inl rfl | exact .inr rfl) (pe_callD g__law_web (hr.mono (by decide)) (by rfl) (pa_cons (pe_callD g__law_stream (hr.mono (by decide)) (by rfl) (pa_cons (pe_op op_add (pe_callD g__law_cell_at (hr.mono (by decide)) (by rfl) (pa_cons (pv 0) (pa_cons (pv 1) pa_nil))) (pv 1)) (pa_cons pe_int pa_nil))) (pa_cons pe_int pa_nil))))
      (pss_one (ps_if (pt_not (pt_val (pe_callD g__law_right (hr.mono (by decide)) (by rfl) (pa_cons (pv 2) pa_nil)))) (pss_one (ps_ret pe_bl)) pss_nil))))
      (pss_one (ps_ret (pe_callD g__law_right (hr.mono (by decide)) (by rfl) (pa_cons (pe_callD g__law_great_web (hr.mono (by decide)) (by rfl) (pa_cons (pe_callD g__law_stream (hr.mono (by decide)) (by rfl) (pa_cons (pe_op op_add (pe_callD g__law_cell_at (hr.mono (by decide)) (by rfl) (pa_cons (pv 0) (pa_cons pe_int pa_nil))) pe_int) (pa_cons pe_int pa_nil))) pa_nil)) pa_nil)))))
end
local macro_rules | `(tactic| walk_at "ev") => `(tactic| first
  | ((with_reducible apply e_var); exact rfl) | ((with_reducible apply e_varm); exact rfl) | ((with_reducible apply e_vars); exact rfl)
  | with_reducible refine e_int ?_ | with_reducible refine e_bl ?_ | with_reducible refine e_non ?_ | with_reducible refine e_str ?_
  | with_reducible refine e_op ?_ | with_reducible refine e_un ?_
  | ((with_reducible refine rr_I0 ?_); refine ⟨_, _, rfl, rfl, ?_⟩) | ((with_reducible refine rr_B0 ?_); refine ⟨_, _, rfl, rfl, ?_⟩)
  | ((with_reducible refine rr_isB ?_); refine ⟨_, _, rfl, rfl, ?_⟩) | ((with_reducible refine rr_notB ?_); refine ⟨_, _, rfl, rfl, ?_⟩)
  | ((with_reducible refine ru_I ?_); refine ⟨_, rfl, ?_⟩)
  | with_reducible refine e_isi instInt ?_ | with_reducible refine e_isi instBool ?_ | with_reducible refine e_isi instTuple ?_ | with_reducible refine e_isiT instList instTuple ?_
  | with_reducible refine e_cb ?_ | with_reducible refine e_call ?_ | with_reducible refine e_callX0 ?_ | with_reducible refine e_chain ?_
  | with_reducible refine ea_cons ?_ | with_reducible refine ea_nil ?_
  | with_reducible refine e_slL ?_ | with_reducible refine eo_some ?_ | with_reducible refine eo_none ?_
  | with_reducible refine e_tup ?_ | with_reducible refine e_lst ?_
  | with_reducible refine e_and ?_ | with_reducible refine e_or ?_ | with_reducible refine e_not ?_ | with_reducible refine e_if ?_
  | with_reducible refine et_test ?_ | with_reducible refine et_B ?_ | with_reducible refine et_and ?_ | with_reducible refine et_or ?_ | with_reducible refine et_not ?_ | with_reducible refine et_yes ?_
  | with_reducible refine s_seq ?_ | with_reducible refine s_asg ?_ | with_reducible refine s_ret ?_ | with_reducible refine s_drop ?_ | with_reducible refine s_if ?_ | with_reducible refine s_next ?_ | with_reducible refine s_par ?_
  | ((with_reducible refine rc_abs ?_); refine ⟨_, rfl, ?_⟩) | ((with_reducible refine rc_max ?_); refine ⟨_, _, rfl, ?_⟩) | ((with_reducible refine rc_min ?_); refine ⟨_, _, rfl, ?_⟩)
  | ((with_reducible refine rr_ix ?_); first | refine ⟨_, _, _, .inr (.d _), rfl, atI_nat (j := 0) rfl, ?_⟩ | refine ⟨_, _, _, .inr (.d _), rfl, atI_nat (j := 1) rfl, ?_⟩ | refine ⟨_, _, _, .inr (.d _), rfl, atI_nat (j := 2) rfl, ?_⟩ | refine ⟨_, _, _, .inl (.d _), rfl, atI_nat (j := 0) rfl, ?_⟩ | refine ⟨_, _, _, .inl (.d _), rfl, atI_nat (j := 1) rfl, ?_⟩ | refine ⟨_, _, _, .inl (.d _), rfl, atI_nat (j := 2) rfl, ?_⟩)
  | ((with_reducible apply Exists.intro); first | refine ⟨(rfl : _ = List.map SD.d []), Nat.le_of_ble_eq_true rfl, ?_⟩ | refine ⟨(rfl : _ = List.map SD.d [_]), Nat.le_of_ble_eq_true rfl, ?_⟩ | refine ⟨(rfl : _ = List.map SD.d [_, _]), Nat.le_of_ble_eq_true rfl, ?_⟩ | refine ⟨(rfl : _ = List.map SD.d [_, _, _]), Nat.le_of_ble_eq_true rfl, ?_⟩ | refine ⟨(rfl : _ = List.map SD.d [_, _, _, _]), Nat.le_of_ble_eq_true rfl, ?_⟩ | refine ⟨Sv.d _, nofun, ?_⟩ | refine ⟨Sv.d _, ?_⟩ | refine ⟨rfl, ?_⟩ | ((with_reducible apply Exists.intro); refine ⟨rfl, ?_⟩)))
local macro_rules | `(tactic| walk_at "evs") => `(tactic| repeat walk_at "ev")

def Φ_common_divisor : Ph := ph2 fun a b ms R => ∃ i j, a = .d (.int i) ∧ b = .d (.int j) ∧ R (.d (.int (Int.gcd i j))) ms
theorem len_common_divisor : ∀ as ms R, Φ_common_divisor as ms R → as.length = 2 := ph2_len
theorem rd_common_divisor {K : PySem.W.Frag} : ∀ as ms R, Φ_common_divisor as ms R → S K (t_common_divisor K) (as ++ List.replicate (2 - as.length) .u) ms (fin R) := by
  rintro as ms R ⟨a, b, rfl, i, j, rfl, rfl, r⟩
  unfold t_common_divisor
  walk_at "evs"
  rw [abs_nat, abs_nat]
  refine s_while (fun m ds ms' => ∃ x y : Nat, ds = [.d (.int x), .d (.int y)] ∧ ms' = ms ∧ Nat.gcd x y = Int.gcd i j ∧ m = y) j.natAbs ⟨i.natAbs, j.natAbs, rfl, rfl, rfl, rfl⟩ ?_
  rintro m ds ms' ⟨x, y, rfl, rfl, hg, hm⟩
  walk_at "evs"
  refine rr_ne ⟨_, _, .d _, .d _, shaped_int _, shaped_int _, _, rfl, ?_, ?_⟩
  · intro h
    walk_at "evs"
    have hy : y ≠ 0 := by
      intro z
      subst z
      rw [eqv_int] at h
      simp at h
    refine rr_I ⟨_, _, rfl, rfl, by omega, ?_⟩
    walk_at "evs"
    rw [fmod_nat]
    exact ⟨x % y, by rw [hm]; exact Nat.mod_lt _ (by omega), y, x % y, rfl, rfl, by rw [gcd_step]; exact hg, rfl⟩
  · intro h
    walk_at "evs"
    have hy : y = 0 := by
      rw [eqv_int] at h
      simp at h
      omega
    subst hy
    rw [Nat.gcd_zero_right] at hg
    rw [hg]
    exact r

def Φ__law_cell_at : Ph := ph2 fun a b ms R => ∃ (ns : List Int) (k : Nat), a = .s ns ∧ b = .d (.int k) ∧ ∀ v : Int, R (.d (.int v)) ms
theorem len__law_cell_at : ∀ as ms R, Φ__law_cell_at as ms R → as.length = 2 := ph2_len
theorem rd__law_cell_at {K : PySem.W.Frag} : ∀ as ms R, Φ__law_cell_at as ms R → S K (t__law_cell_at K) (as ++ List.replicate (2 - as.length) .u) ms (fin R) := by
  rintro as ms R ⟨a, b, rfl, ns, k, rfl, rfl, r⟩
  unfold t__law_cell_at
  walk_at "evs"
  refine rc_len ⟨_, _, rfl, .inl (.s ns), ?_⟩
  walk_at "evs"
  refine ⟨fun h => ?_, fun h => ?_⟩
  · walk_at "evs"
    have hk : k < ns.length := by simpa using h
    refine rr_ix ⟨_, _, .int ns[k], .inl (.s ns), rfl, atI_nat (j := k) (by rw [List.getElem?_map, List.getElem?_eq_getElem hk]; rfl), ?_⟩
    exact r _
  · walk_at "evs"
    exact r 0

def Φ__law_stream : Ph := ph2 fun a b ms R => ∃ (c : Int) (n : Nat), a = .d (.int c) ∧ b = .d (.int n) ∧ n ≤ 1000 ∧ ∀ ns : List Int, R (.f (ns.map .int)) ms
theorem len__law_stream : ∀ as ms R, Φ__law_stream as ms R → as.length = 2 := ph2_len
theorem rd__law_stream {K : PySem.W.Frag} : ∀ as ms R, Φ__law_stream as ms R → S K (t__law_stream K) (as ++ List.replicate (8 - as.length) .u) ms (fin R) := by
  rintro as ms R ⟨a, b, rfl, c, n, rfl, rfl, hn, r⟩
  unfold t__law_stream
  refine s_new (e_lst (ea_nil ⟨[], rfl, Nat.zero_le _, _, rfl, ?_⟩))
  walk_at "evs"
  refine s_forR (js := [4]) ?_
  walk_at "evs"
  refine ⟨⟨by omega, by omega⟩, fun i ds' ms' => ∃ (c' : Int) (o : SD) (ns : List Int), ds' = [.d (.int c), .d (.int n), .m ms.length, .d (.int c'), o, .u, .u, .u] ∧ ms' = ms ++ [.l (ns.map .int)] ∧ ns.length = i, ⟨_, .u, [], rfl, rfl, rfl⟩, ?_, ?_⟩
  · rintro i ds' ms' hi ⟨c', o, ns, rfl, rfl, hl⟩
    refine eg_name ?_
    refine s_seq (s_drop ?_)
    refine e_append ?_
    refine e_varm rfl ⟨_, rfl, ?_⟩
    walk_at "evs"
    refine rr_I ⟨_, _, rfl, rfl, by decide, ?_⟩
    refine ⟨_, _, rfl, get1 _ _, by rw [List.length_map]; omega, ?_⟩
    rw [set1]
    walk_at "evs"
    refine rr_I ⟨_, _, rfl, rfl, ⟨by decide, Bd.mono (Bd.of (n := 64) (by decide)) (by decide)⟩, ?_⟩
    exact ⟨_, _, ns ++ [c'.fmod 1000003], rfl, by simp, by simp [hl]⟩
  rintro ds' ms' ⟨c', o, ns, rfl, rfl, hl⟩
  refine s_seq ?_
  walk_at "evs"
  refine ⟨fun _ => ?_, fun _ => ?_⟩
  · walk_at "evs"
    refine ⟨ms, ns.map .int, rfl, rfl, ?_⟩
    show R (if ms.length = ms.length then _ else _) ms
    rw [if_pos rfl]
    exact r ns
  refine s_next ?_
  refine s_new (e_lst (ea_nil ⟨[], rfl, Nat.zero_le _, _, rfl, ?_⟩))
  have n1 : (ms ++ [MD.l (ns.map .int)]).length = ms.length + 1 := by simp
  rw [n1]
  walk_at "evs"
  refine rr_I ⟨_, _, rfl, rfl, by decide, ?_⟩
  walk_at "evs"
  refine rr_I ⟨_, _, rfl, rfl, by decide, ?_⟩
  walk_at "evs"
  refine s_forR (js := [4]) ?_
  walk_at "evs"
  refine ⟨⟨by omega, by omega⟩, fun i ds' ms' => ∃ (x y : Int) (o : SD) (ns2 : List Int), ds' = [.d (.int c), .d (.int n), .m ms.length, .d (.int c'), o, .m (ms.length + 1), .d (.int x), .d (.int y)] ∧ ms' = ms ++ [.l (ns.map .int)] ++ [.l (ns2.map .int)] ∧ ns2.length = i, ⟨_, _, _, [], rfl, rfl, rfl⟩, ?_, ?_⟩
  · rintro i ds' ms' hi ⟨x, y, o, ns2, rfl, rfl, hl2⟩
    refine eg_name ?_
    walk_at "evs"
    refine rr_I ⟨_, _, rfl, rfl, .inr ⟨by decide, by decide⟩, ?_⟩
    walk_at "evs"
    refine rr_I ⟨_, _, rfl, rfl, by decide, ?_⟩
    walk_at "evs"
    refine rr_I ⟨_, _, rfl, rfl, .inr ⟨by decide, by decide⟩, ?_⟩
    walk_at "evs"
    refine rr_I ⟨_, _, rfl, rfl, by decide, ?_⟩
    refine s_drop (e_append ?_)
    refine e_varm rfl ⟨_, rfl, ?_⟩
    walk_at "evs"
    refine rr_I ⟨_, _, rfl, rfl, ⟨by decide, Bd.mono (Bd.of (n := 64) (by decide)) (by decide)⟩, ?_⟩
    refine ⟨_, _, rfl, get2b _ _ _, by rw [List.length_map]; omega, ?_⟩
    rw [set2b]
    exact ⟨_, _, _, ns2 ++ [_], rfl, by simp; rfl, by simp [hl2]⟩
  · rintro ds' ms' ⟨x, y, o, ns2, rfl, rfl, hl2⟩
    walk_at "evs"
    refine ⟨_, ns2.map .int, rfl, n1, ms, ns.map .int, rfl, rfl, ?_⟩
    show R (frzR ms.length _ (if ms.length + 1 = ms.length + 1 then _ else _)) ms
    rw [if_pos rfl]
    exact r ns2

def Φ__law_take : Ph := ph1 fun a ms R => ∃ (k : Nat) (ns : List Int), a = .m k ∧ ms[k]? = some (.l (ns.map .int)) ∧ ∀ (v : Int) (ns' : List Int), R (.d (.int v)) (ms.set k (.l (ns'.map .int)))
theorem len__law_take : ∀ as ms R, Φ__law_take as ms R → as.length = 1 := ph1_len
theorem set_same {α : Type} : ∀ (l : List α) (k : Nat) (x : α), l[k]? = some x → l.set k x = l
  | [], k, x, h => by simp at h
  | a :: r, 0, x, h => by simp at h; simp [h]
  | a :: r, k + 1, x, h => by simp at h; simp [set_same r k x h]
theorem rd__law_take {K : PySem.W.Frag} : ∀ as ms R, Φ__law_take as ms R → S K (t__law_take K) (as ++ List.replicate (1 - as.length) .u) ms (fin R) := by
  rintro as ms R ⟨a, rfl, k, ns, rfl, hk, r⟩
  unfold t__law_take
  walk_at "evs"
  refine rc_len ⟨_, _, rfl, .inl (.m hk), ?_⟩
  walk_at "evs"
  refine rr_eq ⟨_, _, .d _, .d _, shaped_int _, shaped_int _, ?_⟩
  rw [eqv_int, List.length_map]
  refine ⟨_, rfl, fun h => ?_, fun h => ?_⟩
  · walk_at "evs"
    have := r 0 ns
    rw [set_same _ _ _ hk] at this
    exact this
  · have hn : ns ≠ [] := by
      intro z
      subst z
      cases h
    obtain ⟨ps, v, rfl⟩ : ∃ ps v, ns = ps ++ [v] := ⟨ns.dropLast, ns.getLast hn, (List.dropLast_concat_getLast hn).symm⟩
    walk_at "evs"
    refine e_pop ?_
    walk_at "evs"
    refine ⟨k, ps.map .int, .int v, rfl, by rw [hk]; simp, ?_⟩
    exact r _ ps

theorem fmod_bd {a b : Int} (hb : 0 < b) : 0 ≤ a.fmod b ∧ a.fmod b < b := by
  rw [Int.fmod_eq_emod_of_nonneg _ (by omega)]
  exact ⟨Int.emod_nonneg _ (by omega), Int.emod_lt_of_pos _ hb⟩
def Φ__law_reduced : Ph := ph2 fun a b ms R => ∃ i j : Int, a = .d (.int i) ∧ b = .d (.int j) ∧ 0 < j ∧ Bd 8000 j ∧ R (.d (pr (fr i j))) ms
theorem len__law_reduced : ∀ as ms R, Φ__law_reduced as ms R → as.length = 2 := ph2_len
theorem rd__law_reduced {K : PySem.W.Frag} : ∀ as ms R, Φ__law_reduced as ms R → S K (t__law_reduced K) (as ++ List.replicate (4 - as.length) .u) ms (fin R) := by
  rintro as ms R ⟨a, b, rfl, i, j, rfl, rfl, hj, hb, r⟩
  have hg : 0 < Int.gcd i j := Int.gcd_pos_of_ne_zero_right i (by omega)
  have hgb : Bd 8000 (Int.gcd i j : Int) := hb.le (by
    have := Int.gcd_le_natAbs_right i (show j ≠ 0 by omega)
    omega)
  unfold t__law_reduced
  walk_at "evs"
  rw [abs_nat]
  have ej : j = (j.natAbs : Int) := by omega
  refine s_while (fun m ds' ms' => ∃ x y : Nat, ds' = [.d (.int i), .d (.int j), .d (.int x), .d (.int y)] ∧ ms' = ms ∧ Nat.gcd x y = Int.gcd i j ∧ m = y) j.natAbs ⟨i.natAbs, j.natAbs, by rw [← ej]; rfl, rfl, rfl, rfl⟩ ?_
  rintro m ds ms' ⟨x, y, rfl, rfl, hgc, hm⟩
  walk_at "evs"
  refine rr_ne ⟨_, _, .d _, .d _, shaped_int _, shaped_int _, ?_⟩
  rw [eqv_int]
  refine ⟨_, rfl, fun h => ?_, fun h => ?_⟩
  · walk_at "evs"
    have hy : y ≠ 0 := by
      intro z
      subst z
      simp at h
    refine rr_I ⟨_, _, rfl, rfl, by omega, ?_⟩
    walk_at "evs"
    rw [fmod_nat]
    have := Nat.mod_lt x (show 0 < y by omega)
    exact ⟨x % y, by omega, y, x % y, rfl, rfl, by rw [gcd_step]; exact hgc, rfl⟩
  have hy : y = 0 := by
    simp at h
    omega
  subst hy
  rw [Nat.gcd_zero_right] at hgc
  subst hgc
  walk_at "evs"
  refine rr_I ⟨_, _, rfl, rfl, ⟨by omega, hgb⟩, ?_⟩
  walk_at "evs"
  refine rr_I ⟨_, _, rfl, rfl, ⟨by omega, hgb⟩, ?_⟩
  walk_at "evs"
  have e : fr i j = (i.fdiv (Int.gcd i j), j.fdiv (Int.gcd i j)) := if_neg (by omega)
  rw [e] at r
  exact r

def Sm (t : Tie) : Prop := t.2.2.1.natAbs ≤ 1000000000 ∧ t.2.2.2 ≤ 1000
def Φ__law_weight : Ph := ph1 fun a ms R => ∃ v : Int, a = .d (.int v) ∧ ∀ w : Int × Int, Wt w → w.1.natAbs ≤ 1000000000 → w.2 ≤ 1000 → R (.d (pr w)) ms
theorem len__law_weight : ∀ as ms R, Φ__law_weight as ms R → as.length = 1 := ph1_len
theorem wt_fr {i j : Int} (hj : 0 < j) (h1 : i.natAbs ≤ 1000000000) (h2 : j ≤ 1000) : Wt (fr i j) ∧ (fr i j).1.natAbs ≤ 1000000000 ∧ (fr i j).2 ≤ 1000 := by
  have hne : j ≠ 0 := by omega
  have l := fr_le (i := i) hne
  have p := fr_pos (i := i) hne
  exact ⟨⟨Lo.fr hne, Bd.of (by omega), Bd.of (by omega)⟩, by omega, by omega⟩
theorem rd__law_weight {K : PySem.W.Frag} : ∀ as ms R, Φ__law_weight as ms R → S K (t__law_weight K Φ__law_reduced) (as ++ List.replicate (3 - as.length) .u) ms (fin R) := by
  rintro as ms R ⟨a, rfl, v, rfl, r⟩
  have d8 : ∀ {x : Int}, x ≠ 0 → x.natAbs < 2 ^ 64 → CDivX 0 x := fun h0 h => ⟨h0, Bd.mono (Bd.of (n := 64) h) (by decide)⟩
  unfold t__law_weight
  walk_at "evs"
  refine rr_I ⟨_, _, rfl, rfl, by decide, ?_⟩
  walk_at "evs"
  refine rr_I ⟨_, _, rfl, rfl, d8 (by decide) (by decide), ?_⟩
  walk_at "evs"
  refine rr_eq ⟨_, _, .d _, .d _, shaped_int _, shaped_int _, ?_⟩
  rw [eqv_int]
  refine ⟨_, rfl, fun h => ?_, fun h => ?_⟩
  · walk_at "evs"
    exact r (0, 1) ⟨lo01, Bd.of (by decide), Bd.of (by decide)⟩ (by decide) (by decide)
  walk_at "evs"
  generalize hw : v.fmod 8 = way
  generalize hn : v.fdiv 8 = nu
  refine ⟨fun h1 => ?_, fun h1 => ?_⟩
  · walk_at "evs"
    refine rr_I ⟨_, _, rfl, rfl, by decide, ?_⟩
    walk_at "evs"
    have b := fmod_bd (a := nu) (b := 9) (by decide)
    exact r (nu.fmod 9 - 4, 1) ⟨⟨by show (0 : Int) < 1; decide, by show Int.gcd _ 1 = 1; exact Int.gcd_one_right _⟩, Bd.of (by show (nu.fmod 9 - 4).natAbs < _; omega), Bd.of (by show (1 : Int).natAbs < _; decide)⟩ (by show (nu.fmod 9 - 4).natAbs ≤ _; omega) (by show (1 : Int) ≤ 1000; decide)
  walk_at "evs"
  refine ⟨fun h2 => ?_, fun h2 => ?_⟩
  · walk_at "evs"
    refine rr_I ⟨_, _, rfl, rfl, by decide, ?_⟩
    walk_at "evs"
    refine rr_I ⟨_, _, rfl, rfl, d8 (by decide) (by decide), ?_⟩
    walk_at "evs"
    refine rr_I ⟨_, _, rfl, rfl, by decide, ?_⟩
    walk_at "evs"
    have b := fmod_bd (a := nu) (b := 13) (by decide)
    have b2 := fmod_bd (a := nu.fdiv 13) (b := 4) (by decide)
    have f := wt_fr (i := nu.fmod 13 - 6) (j := 1 + (nu.fdiv 13).fmod 4) (by omega) (by omega) (by omega)
    exact ⟨_, _, rfl, _, _, rfl, rfl, by omega, Bd.mono (Bd.of (n := 64) (by omega)) (by decide), r _ f.1 f.2.1 f.2.2⟩
  walk_at "evs"
  refine rr_I ⟨_, _, rfl, rfl, ⟨by decide, by decide, by decide⟩, ?_⟩
  walk_at "evs"
  refine rr_I ⟨_, _, rfl, rfl, d8 (by decide) (by decide), ?_⟩
  walk_at "evs"
  refine rr_I ⟨_, _, rfl, rfl, by decide, ?_⟩
  have e9 : ((10 : Int) ^ (9 : Int).toNat) = 1000000000 := by decide
  rw [e9]
  have b := fmod_bd (a := nu.fdiv 2) (b := 3) (by decide)
  generalize (nu.fdiv 2).fmod 3 = u at *
  refine rr_I0 ⟨_, _, rfl, rfl, ?_⟩
  refine s_mid (fun ds' ms' => ∃ far : Int, ds' = [.d (.int nu), .d (.int way), .d (.int far)] ∧ ms' = ms ∧ far.natAbs ≤ 1000000000) ?_ ?_
  · walk_at "evs"
    refine rr_I ⟨_, _, rfl, rfl, by decide, ?_⟩
    walk_at "evs"
    refine rr_eq ⟨_, _, .d _, .d _, shaped_int _, shaped_int _, ?_⟩
    refine ⟨_, rfl, fun _ => ?_, fun _ => ?_⟩
    · walk_at "evs"
      exact ⟨rfl, by omega⟩
    · walk_at "evs"
      exact ⟨rfl, by omega⟩
  rintro ds' ms' ⟨far, rfl, rfl, hf⟩
  walk_at "evs"
  refine rr_I ⟨_, _, rfl, rfl, d8 (by decide) (by decide), ?_⟩
  walk_at "evs"
  refine rr_I ⟨_, _, rfl, rfl, by decide, ?_⟩
  walk_at "evs"
  have b2 := fmod_bd (a := nu.fdiv 6) (b := 4) (by decide)
  have f := wt_fr (i := far) (j := 1000 - (nu.fdiv 6).fmod 4) (by omega) hf (by omega)
  exact ⟨_, _, rfl, _, _, rfl, rfl, by omega, Bd.mono (Bd.of (n := 64) (by omega)) (by decide), r _ f.1 f.2.1 f.2.2⟩

def Rise (ts : List Tie) : Prop := ts.Pairwise fun a b => a.1 < b.1 ∨ (a.1 = b.1 ∧ a.2.1 < b.2.1)
def Φ__law_web : Ph := ph2 fun a b ms R => ∃ (k : Nat) (ns : List Int) (mo : Nat), a = .m k ∧ b = .d (.int mo) ∧ ms[k]? = some (.l (ns.map .int)) ∧ 1 ≤ mo ∧ mo ≤ 9 ∧
  ∀ (m : Nat) (ts : List Tie) (ns' : List Int), m ≤ mo → WebOk m ts → Rise ts → (∀ t ∈ ts, Sm t) → ts.length ≤ 81 → R (.d (encW m ts)) (ms.set k (.l (ns'.map .int)))
theorem len__law_web : ∀ as ms R, Φ__law_web as ms R → as.length = 2 := ph2_len
theorem rise_snoc {ts : List Tie} {t : Tie} (h : Rise ts) (h2 : ∀ x ∈ ts, x.1 < t.1 ∨ (x.1 = t.1 ∧ x.2.1 < t.2.1)) : Rise (ts ++ [t]) :=
  List.pairwise_append.mpr ⟨h, by simp, fun a ha b hb => by simp at hb; subst hb; exact h2 a ha⟩
theorem rd__law_web {K : PySem.W.Frag} : ∀ as ms R, Φ__law_web as ms R → S K (t__law_web K Φ__law_take Φ__law_weight) (as ++ List.replicate (8 - as.length) .u) ms (fin R) := by
  rintro as ms R ⟨a, b, rfl, k, ns, mo, rfl, rfl, hk, h2, h3, r⟩
  have hkl : k < ms.length := (List.getElem?_eq_some_iff.mp hk).1
  unfold t__law_web
  walk_at "evs"
  refine ⟨_, rfl, k, ns, rfl, hk, fun v ns1 => ?_⟩
  walk_at "evs"
  refine rr_I ⟨_, _, rfl, rfl, by omega, ?_⟩
  walk_at "evs"
  have hv := fmod_bd (a := v) (b := (mo : Int)) (by omega)
  obtain ⟨m, hm⟩ : ∃ m : Nat, (1 : Int) + v.fmod mo = m := ⟨((1 : Int) + v.fmod mo).toNat, by omega⟩
  rw [hm]
  refine ⟨_, rfl, k, ns1, rfl, by rw [List.getElem?_set_self hkl], fun sh ns3 => ?_⟩
  rw [List.set_set]
  walk_at "evs"
  refine rr_I ⟨_, _, rfl, rfl, by decide, ?_⟩
  generalize sh.fmod 6 = share
  refine s_new ?_
  walk_at "evs"
  refine s_forR (js := [5]) ?_
  walk_at "evs"
  have hm9 : m ≤ 9 := by omega
  have hl : (ms.set k (.l (ns3.map .int))).length = ms.length := List.length_set
  rw [hl]
  refine ⟨⟨by omega, by omega⟩, fun i ds' ms' => ∃ (ts : List Tie) (ns4 : List Int) (o o2 o3 : SD), ds' = [.m k, .d (.int mo), .d (.int m), .d (.int share), .m ms.length, o, o2, o3] ∧ ms' = ms.set k (.l (ns4.map .int)) ++ [.l (ts.map encT)] ∧ (∀ t ∈ ts, TieOk m t ∧ Sm t ∧ t.1 < i) ∧ Rise ts ∧ ts.length ≤ 9 * i, ⟨[], ns3, .u, .u, .u, rfl, rfl, by simp, List.Pairwise.nil, by simp⟩, ?_, ?_⟩
  · rintro i ds' ms' hi2 ⟨ts, ns4, o, o2, o3, rfl, rfl, ht, hr, hz⟩
    have hi3 : i < m := by simpa using hi2
    refine eg_name ?_
    refine s_forR2 (js := [6]) ?_
    walk_at "evs"
    refine ⟨⟨by omega, by omega, by omega, by omega⟩, fun j ds' ms' => ∃ (ts : List Tie) (ns4 : List Int) (o2 o3 : SD), ds' = [.m k, .d (.int mo), .d (.int m), .d (.int share), .m ms.length, .d (.int i), o2, o3] ∧ ms' = ms.set k (.l (ns4.map .int)) ++ [.l (ts.map encT)] ∧ (∀ t ∈ ts, TieOk m t ∧ Sm t ∧ (t.1 < i ∨ (t.1 = i ∧ t.2.1 < i + 1 + j))) ∧ Rise ts ∧ ts.length ≤ 9 * i + j, ⟨ts, ns4, o2, o3, rfl, rfl, fun t h => ⟨(ht t h).1, (ht t h).2.1, .inl (ht t h).2.2⟩, hr, by omega⟩, ?_, ?_⟩
    · rintro j ds' ms' hj ⟨ts, ns5, o3, o4, rfl, rfl, ht, hr, hz⟩
      have hj2 : i + 1 + j < m := by omega
      have hkl2 : ∀ x : MD, k < (ms.set k x).length := fun x => by rw [List.length_set]; exact hkl
      refine eg_name ?_
      walk_at "evs"
      refine ⟨_, rfl, k, ns5, rfl, by rw [List.getElem?_append_left (hkl2 _), List.getElem?_set_self hkl], fun z ns6 => ?_⟩
      rw [List.set_append_left _ _ (hkl2 _), List.set_set]
      walk_at "evs"
      refine rr_I ⟨_, _, rfl, rfl, by decide, ?_⟩
      walk_at "evs"
      refine ⟨fun _ => ?_, fun _ => ?_⟩
      · walk_at "evs"
        refine e_append ?_
        walk_at "evs"
        refine rr_I ⟨_, _, rfl, rfl, ⟨by decide, Bd.mono (Bd.of (n := 64) (by decide)) (by decide)⟩, ?_⟩
        walk_at "evs"
        refine ⟨_, rfl, _, rfl, fun w ww w1 w2 => ?_⟩
        walk_at "evs"
        have ln : (ms.set k (.l (ns6.map PyData.int))).length = ms.length := List.length_set
        refine ⟨(show _ = some (MD.l (ts.map encT)) by rw [List.getElem?_append_right (by omega), ln, Nat.sub_self]; rfl), by rw [List.length_map]; omega, ?_⟩
        refine ⟨ts ++ [(i, i + 1 + j, w)], ns6, _, _, rfl, ?_, ?_, ?_, ?_⟩
        · rw [List.set_append_right _ _ (by omega), ln, Nat.sub_self, List.map_append]
          have e : ((i : Int) + 1 + (j : Int)) = ((i + 1 + j : Nat) : Int) := by omega
          show _ ++ [MD.l _] = _
          rw [e]
          rfl
        · intro t h
          rcases List.mem_append.mp h with h | h
          · obtain ⟨h1, h2, h3⟩ := ht t h
            exact ⟨h1, h2, by omega⟩
          · simp at h
            subst h
            exact ⟨⟨by show i < i + 1 + j; omega, hj2, ww⟩, ⟨w1, w2⟩, .inr ⟨rfl, by show i + 1 + j < i + 1 + (j + 1); omega⟩⟩
        · exact rise_snoc hr fun x hx => (ht x hx).2.2
        · rw [List.length_append]
          show ts.length + 1 ≤ _
          omega
      · walk_at "evs"
        refine ⟨ts, ns6, _, _, rfl, rfl, fun t h => ?_, hr, by omega⟩
        obtain ⟨h1, h2, h3⟩ := ht t h
        exact ⟨h1, h2, by omega⟩
    · rintro ds' ms' ⟨ts, ns5, o3, o4, rfl, rfl, ht, hr, hz⟩
      refine ⟨ts, ns5, _, _, _, rfl, rfl, fun t h => ?_, hr, by omega⟩
      obtain ⟨h1, h2, h3⟩ := ht t h
      exact ⟨h1, h2, by omega⟩
  · rintro ds' ms' ⟨ts, ns4, o, o2, o3, rfl, rfl, ht, hr, hz⟩
    have ln : (ms.set k (.l (ns4.map PyData.int))).length = ms.length := List.length_set
    walk_at "evs"
    refine rc_tuple ⟨_, ts.map encT, rfl, .inl (.m (by rw [List.getElem?_append_right (by omega), ln, Nat.sub_self]; rfl)), ?_⟩
    walk_at "evs"
    refine ⟨_, _, rfl, ln, ?_⟩
    exact r m ts ns4 (by omega) ⟨fun t h => (ht t h).1, by simp at hz; omega, by omega, by omega⟩ hr (fun t h => (ht t h).2.1) (by simp at hz; omega)

def Φ__law_great_web : Ph := ph1 fun a ms R => ∃ (k : Nat) (ns : List Int), a = .m k ∧ ms[k]? = some (.l (ns.map .int)) ∧
  ∀ (m : Nat) (ts : List Tie) (ns' : List Int), WebOk m ts → Rise ts → (∀ t ∈ ts, Sm t) → R (.d (encW m ts)) (ms.set k (.l (ns'.map .int)))
theorem len__law_great_web : ∀ as ms R, Φ__law_great_web as ms R → as.length = 1 := ph1_len
theorem rd__law_great_web {K : PySem.W.Frag} : ∀ as ms R, Φ__law_great_web as ms R → S K (t__law_great_web K Φ__law_take Φ__law_weight) (as ++ List.replicate (6 - as.length) .u) ms (fin R) := by
  rintro as ms R ⟨a, rfl, k, ns, rfl, hk, r⟩
  have hkl : k < ms.length := (List.getElem?_eq_some_iff.mp hk).1
  unfold t__law_great_web
  walk_at "evs"
  refine ⟨_, rfl, k, ns, rfl, hk, fun v ns1 => ?_⟩
  walk_at "evs"
  refine rr_I ⟨_, _, rfl, rfl, by decide, ?_⟩
  walk_at "evs"
  have hv := fmod_bd (a := v) (b := 3) (by decide)
  obtain ⟨m, hm⟩ : ∃ m : Nat, (60 : Int) - v.fmod 3 = m := ⟨((60 : Int) - v.fmod 3).toNat, by omega⟩
  rw [hm]
  refine ⟨_, rfl, k, ns1, rfl, by rw [List.getElem?_set_self hkl], fun sh ns3 => ?_⟩
  rw [List.set_set]
  walk_at "evs"
  refine rr_I ⟨_, _, rfl, rfl, by decide, ?_⟩
  refine rr_I0 ⟨_, _, rfl, rfl, ?_⟩
  have hs := fmod_bd (a := sh) (b := 3) (by decide)
  obtain ⟨st, hst⟩ : ∃ st : Nat, (1 : Int) + sh.fmod 3 = st := ⟨((1 : Int) + sh.fmod 3).toNat, by omega⟩
  rw [hst]
  refine s_new (e_lst (ea_nil ⟨[], rfl, Nat.zero_le _, _, rfl, ?_⟩))
  refine s_seq (s_forR (js := [4]) ?_)
  walk_at "evs"
  have hl : (ms.set k (.l (ns3.map .int))).length = ms.length := List.length_set
  rw [hl]
  refine ⟨⟨by omega, by omega⟩, fun i ds' ms' => ∃ (ts : List Tie) (ns4 : List Int) (o o2 : SD), ds' = [.m k, .d (.int m), .d (.int st), .m ms.length, o, o2] ∧ ms' = ms.set k (.l (ns4.map .int)) ++ [.l (ts.map encT)] ∧ (∀ t ∈ ts, TieOk m t ∧ Sm t ∧ t.1 < i) ∧ Rise ts ∧ ts.length ≤ 170, ⟨[], ns3, .u, .u, rfl, rfl, by simp, List.Pairwise.nil, by simp⟩, ?_, ?_⟩
  · rintro i ds' ms' hi2 ⟨ts, ns4, o, o2, rfl, rfl, ht, hr, hz⟩
    have hi3 : i < m := by simpa using hi2
    refine eg_name ?_
    refine s_forR2 (js := [5]) ?_
    walk_at "evs"
    refine ⟨⟨by omega, by omega, by omega, by omega⟩, fun j ds' ms' => ∃ (ts : List Tie) (ns4 : List Int) (o2 : SD), ds' = [.m k, .d (.int m), .d (.int st), .m ms.length, .d (.int i), o2] ∧ ms' = ms.set k (.l (ns4.map .int)) ++ [.l (ts.map encT)] ∧ (∀ t ∈ ts, TieOk m t ∧ Sm t ∧ (t.1 < i ∨ (t.1 = i ∧ t.2.1 < i + st + j))) ∧ Rise ts ∧ ts.length ≤ 170, ⟨ts, ns4, o2, rfl, rfl, fun t h => ⟨(ht t h).1, (ht t h).2.1, .inl (ht t h).2.2⟩, hr, by omega⟩, ?_, ?_⟩
    · rintro j ds' ms' hj ⟨ts, ns5, o3, rfl, rfl, ht, hr, hz⟩
      have hkl2 : ∀ x : MD, k < (ms.set k x).length := fun x => by rw [List.length_set]; exact hkl
      have ln : ∀ x : MD, (ms.set k x).length = ms.length := fun x => List.length_set
      have go : ∀ ds' : List SD, ds' = [.m k, .d (.int m), .d (.int st), .m ms.length, .d (.int i), .d (.int (st + j))] → ∃ (ts' : List Tie) (ns4 : List Int) (o2 : SD), ds' = [.m k, .d (.int m), .d (.int st), .m ms.length, .d (.int i), o2] ∧ ms.set k (.l (ns5.map .int)) ++ [.l (ts.map encT)] = ms.set k (.l (ns4.map .int)) ++ [.l (ts'.map encT)] ∧ (∀ t ∈ ts', TieOk m t ∧ Sm t ∧ (t.1 < i ∨ (t.1 = i ∧ t.2.1 < i + st + (j + 1)))) ∧ Rise ts' ∧ ts'.length ≤ 170 := fun ds' e => ⟨ts, ns5, _, e, rfl, fun t h => by
        obtain ⟨h1, h2, h3⟩ := ht t h
        exact ⟨h1, h2, by omega⟩, hr, hz⟩
      refine eg_name ?_
      walk_at "evs"
      refine ⟨fun h1 => ?_, fun h1 => ?_⟩
      · have hj2 : i + (st + j) < m := by
          have := of_decide_eq_true h1
          omega
        walk_at "evs"
        refine rc_len ⟨_, _, rfl, .inl (.m (show _ = some (MD.l (ts.map encT)) by rw [List.getElem?_append_right (by rw [ln]; exact Nat.le_refl _), ln, Nat.sub_self]; rfl)), ?_⟩
        walk_at "evs"
        rw [List.length_map]
        refine ⟨fun h2 => ?_, fun h2 => ?_⟩
        · have hlt : ts.length < 170 := by
            have := of_decide_eq_true h2
            omega
          refine s_drop (e_append (e_varm rfl ⟨_, rfl, ?_⟩))
          walk_at "evs"
          refine ⟨_, rfl, k, ns5, rfl, by rw [List.getElem?_append_left (hkl2 _), List.getElem?_set_self hkl], fun z ns6 => ?_⟩
          rw [List.set_append_left _ _ (hkl2 _), List.set_set]
          walk_at "evs"
          refine ⟨_, rfl, _, rfl, fun w ww w1 w2 => ?_⟩
          walk_at "evs"
          refine ⟨(show _ = some (MD.l (ts.map encT)) by rw [List.getElem?_append_right (by rw [ln]; exact Nat.le_refl _), ln, Nat.sub_self]; rfl), by rw [List.length_map]; omega, ?_⟩
          refine ⟨ts ++ [(i, i + (st + j), w)], ns6, _, rfl, ?_, ?_, ?_, ?_⟩
          · rw [List.set_append_right _ _ (by rw [ln]; exact Nat.le_refl _), ln, Nat.sub_self, List.map_append]
            have e : ((i : Int) + ((st : Int) + (j : Int))) = ((i + (st + j) : Nat) : Int) := by omega
            show _ ++ [MD.l _] = _
            rw [e]
            rfl
          · intro t h
            rcases List.mem_append.mp h with h | h
            · obtain ⟨h1, h2, h3⟩ := ht t h
              exact ⟨h1, h2, by omega⟩
            · simp at h
              subst h
              exact ⟨⟨by show i < i + (st + j); omega, hj2, ww⟩, ⟨w1, w2⟩, .inr ⟨rfl, by show i + (st + j) < i + st + (j + 1); omega⟩⟩
          · refine rise_snoc hr fun x hx => ?_
            have := (ht x hx).2.2
            show x.1 < i ∨ (x.1 = i ∧ x.2.1 < i + (st + j))
            omega
          · rw [List.length_append]
            show ts.length + 1 ≤ _
            omega
        · walk_at "evs"
          exact go _ rfl
      · refine ⟨nofun, fun _ => ?_⟩
        walk_at "evs"
        exact go _ rfl
    · rintro ds' ms' ⟨ts, ns5, o3, rfl, rfl, ht, hr, hz⟩
      refine ⟨ts, ns5, _, _, rfl, rfl, fun t h => ?_, hr, hz⟩
      obtain ⟨h1, h2, h3⟩ := ht t h
      exact ⟨h1, h2, by omega⟩
  · rintro ds' ms' ⟨ts, ns4, o, o2, rfl, rfl, ht, hr, hz⟩
    have ln : (ms.set k (.l (ns4.map PyData.int))).length = ms.length := List.length_set
    walk_at "evs"
    refine rc_tuple ⟨_, ts.map encT, rfl, .inl (.m (by rw [List.getElem?_append_right (by omega), ln, Nat.sub_self]; rfl)), ?_⟩
    walk_at "evs"
    refine ⟨_, _, rfl, ln, ?_⟩
    exact r m ts ns4 ⟨fun t h => (ht t h).1, hz, by omega, by omega⟩ hr (fun t h => (ht t h).2.1)

def Φ__law_plus : Ph := ph2 fun a b ms R => ∃ p q : Int × Int, a = .d (pr p) ∧ b = .d (pr q) ∧ 0 < p.2 ∧ 0 < q.2 ∧ Bd 20000 p.1 ∧ Bd 4000 p.2 ∧ Bd 20000 q.1 ∧ Bd 4000 q.2 ∧ R (.d (pr (pl p q))) ms
theorem len__law_plus : ∀ as ms R, Φ__law_plus as ms R → as.length = 2 := ph2_len
theorem rd__law_plus {K : PySem.W.Frag} : ∀ as ms R, Φ__law_plus as ms R → S K (t__law_plus K Φ__law_reduced) (as ++ List.replicate (2 - as.length) .u) ms (fin R) := by
  rintro as ms R ⟨a, b, rfl, p, q, rfl, rfl, hp, hq, b1, b2, b3, b4, r⟩
  have up : ∀ {x : Int}, Bd 20000 x → Bd 100000 x := fun h => h.mono (by decide)
  have uq : ∀ {x : Int}, Bd 4000 x → Bd 100000 x := fun h => h.mono (by decide)
  unfold t__law_plus
  walk_at "evs"
  refine rr_I ⟨_, _, rfl, rfl, ⟨up b1, uq b4⟩, ?_⟩
  walk_at "evs"
  refine rr_I ⟨_, _, rfl, rfl, ⟨up b3, uq b2⟩, ?_⟩
  walk_at "evs"
  refine rr_I ⟨_, _, rfl, rfl, ⟨uq b2, uq b4⟩, ?_⟩
  walk_at "evs"
  exact ⟨_, _, rfl, _, _, rfl, rfl, Int.mul_pos hp hq, (b2.mul b4).mono (by decide), r⟩

theorem less_val {p q : Int × Int} (hp : 0 < p.2) (hq : 0 < q.2) : decide (p.1 * q.2 < q.1 * p.2) = decide (val p < val q) := by
  have h1 : (0 : Rat) < (p.2 : Rat) := by exact_mod_cast hp
  have h2 : (0 : Rat) < (q.2 : Rat) := by exact_mod_cast hq
  have e1 : (p.1 : Rat) = val p * (p.2 : Rat) := by unfold val; grind
  have e2 : (q.1 : Rat) = val q * (q.2 : Rat) := by unfold val; grind
  have iff : p.1 * q.2 < q.1 * p.2 ↔ val p < val q := by
    have c : p.1 * q.2 < q.1 * p.2 ↔ ((p.1 : Rat) * (q.2 : Rat)) < ((q.1 : Rat) * (p.2 : Rat)) := by
      rw [← Rat.intCast_mul, ← Rat.intCast_mul]
      exact Rat.intCast_lt_intCast.symm
    rw [c, e1, e2]
    have e3 : val p * (p.2 : Rat) * (q.2 : Rat) = val p * ((p.2 : Rat) * (q.2 : Rat)) := by grind
    have e4 : val q * (q.2 : Rat) * (p.2 : Rat) = val q * ((p.2 : Rat) * (q.2 : Rat)) := by grind
    rw [e3, e4]
    have h3 : (0 : Rat) < (p.2 : Rat) * (q.2 : Rat) := Rat.mul_pos h1 h2
    exact Rat.mul_lt_mul_right h3
  exact decide_eq_decide.mpr iff
def Φ__law_less : Ph := ph2 fun a b ms R => ∃ p q : Int × Int, a = .d (pr p) ∧ b = .d (pr q) ∧ 0 < p.2 ∧ 0 < q.2 ∧ Bd 20000 p.1 ∧ Bd 20000 p.2 ∧ Bd 20000 q.1 ∧ Bd 20000 q.2 ∧ R (.d (.bool (decide (val p < val q)))) ms
theorem len__law_less : ∀ as ms R, Φ__law_less as ms R → as.length = 2 := ph2_len
theorem rd__law_less {K : PySem.W.Frag} : ∀ as ms R, Φ__law_less as ms R → S K (t__law_less K) (as ++ List.replicate (2 - as.length) .u) ms (fin R) := by
  rintro as ms R ⟨a, b, rfl, p, q, rfl, rfl, hp, hq, b1, b2, b3, b4, r⟩
  have up : ∀ {x : Int}, Bd 20000 x → Bd 100000 x := fun h => h.mono (by decide)
  unfold t__law_less
  walk_at "evs"
  refine rr_I ⟨_, _, rfl, rfl, ⟨up b1, up b4⟩, ?_⟩
  walk_at "evs"
  refine rr_I ⟨_, _, rfl, rfl, ⟨up b3, up b2⟩, ?_⟩
  walk_at "evs"
  rw [less_val hp hq]
  exact r

theorem fdiv_le {a b : Int} (ha : 0 ≤ a) (hb : 0 ≤ b) : (a.fdiv b).natAbs ≤ a.natAbs := by
  rw [Int.fdiv_eq_ediv_of_nonneg _ hb]
  have h1 := Int.ediv_le_self b ha
  have h2 := Int.ediv_nonneg ha hb
  omega
def lcS (c b : Int) : Int := c.fdiv (Int.gcd c b) * b
def lcmF (fs : List (Int × Int)) : Int := fs.foldl (fun c f => lcS c f.2) 1
theorem lcS_is {c b : Int} (hc : 0 < c) (hb : 0 < b) : 0 < lcS c b ∧ c ∣ lcS c b ∧ b ∣ lcS c b ∧ (lcS c b).natAbs ≤ c.natAbs * b.natAbs := by
  have hg : 0 < Int.gcd c b := Int.gcd_pos_of_ne_zero_right c (by omega)
  obtain ⟨c1, e1⟩ : (Int.gcd c b : Int) ∣ c := Int.gcd_dvd_left ..
  obtain ⟨b1, e2⟩ : (Int.gcd c b : Int) ∣ b := Int.gcd_dvd_right ..
  unfold lcS
  generalize hG : (Int.gcd c b : Int) = g at *
  have gp : 0 < g := by omega
  have fd : c.fdiv g = c1 := by
    rw [e1, Int.fdiv_eq_ediv_of_nonneg _ (by omega)]
    exact Int.mul_ediv_cancel_left c1 (by omega)
  rw [fd]
  have c1p : 0 < c1 := by
    rw [e1] at hc
    exact Int.pos_of_mul_pos_right hc gp
  refine ⟨Int.mul_pos c1p hb, ⟨b1, ?_⟩, ⟨c1, Int.mul_comm ..⟩, ?_⟩
  · calc c1 * b = c1 * (g * b1) := by rw [← e2]
      _ = (g * c1) * b1 := by rw [← Int.mul_assoc, Int.mul_comm c1 g]
      _ = c * b1 := by rw [← e1]
  · rw [Int.natAbs_mul]
    refine Nat.mul_le_mul_right _ ?_
    rw [e1, Int.natAbs_mul]
    exact Nat.le_mul_of_pos_left _ (by omega)
theorem lcm_snoc (fs : List (Int × Int)) (f : Int × Int) : lcmF (fs ++ [f]) = lcS (lcmF fs) f.2 := by
  unfold lcmF
  rw [List.foldl_append]
  rfl
theorem lcm_ok : ∀ n (fs : List (Int × Int)), fs.length = n → (∀ f ∈ fs, 0 < f.2 ∧ Bd 10 f.2) → 0 < lcmF fs ∧ Bd (10 * fs.length + 1) (lcmF fs) ∧ ∀ f ∈ fs, f.2 ∣ lcmF fs := by
  intro n
  induction n with
  | zero =>
    intro fs hn _
    have : fs = [] := List.length_eq_zero_iff.mp hn
    subst this
    exact ⟨by decide, Bd.of (by decide), fun f hf => by cases hf⟩
  | succ n ih =>
    intro fs hn h
    have hne : fs ≠ [] := fun z => by subst z; cases hn
    obtain ⟨ps, f, rfl⟩ : ∃ ps f, fs = ps ++ [f] := ⟨fs.dropLast, fs.getLast hne, (List.dropLast_concat_getLast hne).symm⟩
    obtain ⟨h1, h2, h3⟩ := ih ps (by simpa using hn) fun x hx => h x (by simp [hx])
    obtain ⟨f1, f2⟩ := h f (by simp)
    obtain ⟨s1, s2, s3, s4⟩ := lcS_is h1 f1
    rw [lcm_snoc]
    refine ⟨s1, ?_, fun x hx => ?_⟩
    · have := (h2.mul f2).le (i := lcS (lcmF ps) f.2) (by rw [Int.natAbs_mul]; exact s4)
      exact this.mono (by simp; omega)
    · rcases List.mem_append.mp hx with z | z
      · exact Int.dvd_trans (h3 x z) s2
      · rw [List.mem_singleton.mp z]; exact s3
def Φ_common_bottom : Ph := ph1 fun a ms R => ∃ fs : List (Int × Int), a = .d (.list (fs.map pr)) ∧ fs.length ≤ 200 ∧ (∀ f ∈ fs, Wt f) ∧ R (.d (.int (lcmF fs))) ms
theorem len_common_bottom : ∀ as ms R, Φ_common_bottom as ms R → as.length = 1 := ph1_len
theorem wt_lc {f : Int × Int} (h : Wt f) : 0 < f.2 ∧ Bd 10 f.2 := ⟨h.lo.pos, h.b2⟩
theorem rd_common_bottom {K : PySem.W.Frag} : ∀ as ms R, Φ_common_bottom as ms R → S K (t_common_bottom K Φ_common_divisor) (as ++ List.replicate (4 - as.length) .u) ms (fin R) := by
  rintro as ms R ⟨a, rfl, fs, rfl, hl, hw, r⟩
  unfold t_common_bottom
  walk_at "evs"
  refine s_forL (js := [2, 3]) (e_var rfl ?_)
  refine ⟨_, .d _, fun k ds' ms' => ∃ o2 o3 : SD, ds' = [.d (.list (fs.map pr)), .d (.int (lcmF (fs.take k))), o2, o3] ∧ ms' = ms, ⟨.u, .u, rfl, rfl⟩, ?_, ?_⟩
  · rintro k e ds' ms' hk ⟨o2, o3, rfl, rfl⟩
    rw [List.getElem?_map] at hk
    cases q : fs[k]? with
    | none => rw [q] at hk; cases hk
    | some f =>
      rw [q] at hk
      have e1 := (Option.some.inj hk).symm
      subst e1
      have hkl := (List.getElem?_eq_some_iff.mp q).1
      obtain ⟨c1, c2, _⟩ := lcm_ok _ (fs.take k) rfl fun x hx => wt_lc (hw x (List.mem_of_mem_take hx))
      have wf := wt_lc (hw f (List.mem_of_getElem? q))
      have ln : (fs.take k).length ≤ 200 := by rw [List.length_take]; omega
      have hg : 0 < Int.gcd (lcmF (fs.take k)) f.2 := Int.gcd_pos_of_ne_zero_right _ (by omega)
      have gb : Bd 10 (Int.gcd (lcmF (fs.take k)) f.2 : Int) := wf.2.le (by
        have := Int.gcd_le_natAbs_right (lcmF (fs.take k)) (show f.2 ≠ 0 by omega)
        omega)
      refine eg_tup rfl (egs_cons (eg_name (egs_cons (eg_name (egs_nil ?_)))))
      walk_at "evs"
      refine ⟨_, _, rfl, _, _, rfl, rfl, ?_⟩
      refine rr_I ⟨_, _, rfl, rfl, ⟨by omega, gb.mono (by decide)⟩, ?_⟩
      walk_at "evs"
      have fb : Bd 3000 ((lcmF (fs.take k)).fdiv (Int.gcd (lcmF (fs.take k)) f.2)) := by
        refine (c2.mono (n := 3000) (by omega)).le ?_
        exact fdiv_le (by omega) (by omega)
      refine rr_I ⟨_, _, rfl, rfl, ⟨fb.mono (by decide), wf.2.mono (by decide)⟩, ?_⟩
      refine ⟨.d (.int f.1), .d (.int f.2), ?_, rfl⟩
      rw [take_snoc q, lcm_snoc]
      rfl
  · rintro ds' ms' ⟨o2, o3, rfl, rfl⟩
    walk_at "evs"
    rw [List.length_map, List.take_length]
    exact r

def wF (t : Tie) : Int × Int := t.2.2
def scl (ts : List Tie) : Int := lcmF (ts.map wF)
def Φ_whole_scale : Ph := ph1 fun a ms R => ∃ (m : Nat) (ts : List Tie), a = .d (encW m ts) ∧ WebOk m ts ∧ R (.d (.int (scl ts))) ms
theorem len_whole_scale : ∀ as ms R, Φ_whole_scale as ms R → as.length = 1 := ph1_len
theorem rd_whole_scale {K : PySem.W.Frag} : ∀ as ms R, Φ_whole_scale as ms R → S K (t_whole_scale K Φ_common_bottom) (as ++ List.replicate (4 - as.length) .u) ms (fin R) := by
  rintro as ms R ⟨a, rfl, m, ts, rfl, hw, r⟩
  have hl := hw.len
  unfold t_whole_scale
  walk_at "evs"
  refine e_lcT (js := [1, 2, 3]) (by simp) ?_
  walk_at "evs"
  refine ⟨by rw [List.length_map]; omega, fun k acc ms' => acc = ((ts.take k).map wF).map pr ∧ ms' = ms, ⟨rfl, rfl⟩, ?_, ?_⟩
  · rintro k e acc ms' hk ⟨rfl, rfl⟩
    rw [List.getElem?_map] at hk
    cases q : ts[k]? with
    | none => rw [q] at hk; cases hk
    | some t =>
      rw [q] at hk
      have e1 := (Option.some.inj hk).symm
      subst e1
      refine eg_tup rfl (egs_cons (eg_name (egs_cons (eg_name (egs_cons (eg_name (egs_nil ?_)))))))
      walk_at "evs"
      refine ⟨fun _ => ?_, nofun⟩
      walk_at "evs"
      exact ⟨by rw [take_snoc q, List.map_append, List.map_append]; rfl, rfl⟩
  · rintro acc ms' ⟨rfl, rfl⟩
    walk_at "evs"
    rw [List.length_map, List.take_length]
    refine ⟨_, rfl, ts.map wF, rfl, by rw [List.length_map]; omega, fun f hf => ?_, r⟩
    obtain ⟨t, ht, rfl⟩ := List.mem_map.mp hf
    exact (hw.all t ht).w

def wI (ts : List Tie) (t : Tie) : Int := t.2.2.1 * (scl ts).fdiv t.2.2.2
theorem scl_ok {m : Nat} {ts : List Tie} (hw : WebOk m ts) : 0 < scl ts ∧ Bd 1701 (scl ts) ∧ ∀ t ∈ ts, t.2.2.2 ∣ scl ts := by
  have := lcm_ok _ (ts.map wF) rfl fun f hf => by
    obtain ⟨t, ht, rfl⟩ := List.mem_map.mp hf
    exact wt_lc (hw.all t ht).w
  obtain ⟨a, b, c⟩ := this
  refine ⟨a, b.mono (by rw [List.length_map]; have := hw.len; omega), fun t ht => c _ (List.mem_map.mpr ⟨t, ht, rfl⟩)⟩
theorem wI_val {m : Nat} {ts : List Tie} (hw : WebOk m ts) {t : Tie} (ht : t ∈ ts) : ((wI ts t : Int) : Rat) = (scl ts : Rat) * val t.2.2 := by
  obtain ⟨h1, _, h3⟩ := scl_ok hw
  obtain ⟨c, hc⟩ := h3 t ht
  have hp := (hw.all t ht).w.lo.pos
  have e : (scl ts).fdiv t.2.2.2 = c := by
    rw [hc, Int.fdiv_eq_ediv_of_nonneg _ (by omega)]
    exact Int.mul_ediv_cancel_left c (by omega)
  unfold wI
  rw [e, Rat.intCast_mul, hc, Rat.intCast_mul]
  have h2 : (t.2.2.2 : Rat) ≠ 0 := cast_ne (by omega)
  unfold val
  grind
def Φ_whole_weights : Ph := ph1 fun a ms R => ∃ (m : Nat) (ts : List Tie), a = .d (encW m ts) ∧ WebOk m ts ∧ R (.f ((ts.map (wI ts)).map .int)) ms
theorem len_whole_weights : ∀ as ms R, Φ_whole_weights as ms R → as.length = 1 := ph1_len
theorem rd_whole_weights {K : PySem.W.Frag} : ∀ as ms R, Φ_whole_weights as ms R → S K (t_whole_weights K Φ_whole_scale) (as ++ List.replicate (6 - as.length) .u) ms (fin R) := by
  rintro as ms R ⟨a, rfl, m, ts, rfl, hw, r⟩
  have hl := hw.len
  obtain ⟨s1, s2, s3⟩ := scl_ok hw
  unfold t_whole_weights
  walk_at "evs"
  refine ⟨_, rfl, m, ts, rfl, hw, ?_⟩
  walk_at "evs"
  refine e_lcT (js := [2, 3, 4, 5]) (by simp) ?_
  walk_at "evs"
  refine ⟨by rw [List.length_map]; omega, fun k acc ms' => acc = ((ts.take k).map (wI ts)).map .int ∧ ms' = ms, ⟨rfl, rfl⟩, ?_, ?_⟩
  · rintro k e acc ms' hk ⟨rfl, rfl⟩
    rw [List.getElem?_map] at hk
    cases q : ts[k]? with
    | none => rw [q] at hk; cases hk
    | some t =>
      rw [q] at hk
      have e1 := (Option.some.inj hk).symm
      subst e1
      have ht := List.mem_of_getElem? q
      have wt := (hw.all t ht).w
      have hp := wt.lo.pos
      refine eg_tup rfl (egs_cons (eg_name (egs_cons (eg_name (egs_cons (eg_tup rfl (egs_cons (eg_name (egs_cons (eg_name (egs_nil (egs_nil ?_))))))))))))
      walk_at "evs"
      refine ⟨fun _ => ?_, nofun⟩
      walk_at "evs"
      refine rr_I ⟨_, _, rfl, rfl, ⟨by omega, wt.b2.mono (by decide)⟩, ?_⟩
      walk_at "evs"
      have fb : Bd 3000 ((scl ts).fdiv t.2.2.2) := by
        refine (s2.mono (n := 3000) (by omega)).le ?_
        exact fdiv_le (by omega) (by omega)
      refine rr_I ⟨_, _, rfl, rfl, ⟨wt.b1.mono (by decide), fb.mono (by decide)⟩, ?_⟩
      exact ⟨_, rfl, by rw [take_snoc q, List.map_append, List.map_append]; rfl, rfl⟩
  · rintro acc ms' ⟨rfl, rfl⟩
    rw [List.length_map, List.take_length]
    exact r

abbrev prN (p : Nat × Int) : PyData := .tuple [.int p.1, .int p.2]
/-- the ties at a point, with the other end and a number for each tie -/
def nearF (g : Tie → Int) (ts : List Tie) (p : Nat) : List (Nat × Int) := ts.filterMap fun t => if t.1 = p then some (t.2.1, g t) else if t.2.1 = p then some (t.1, g t) else none
def nearP (g : Tie → Int) (ts : List Tie) (m : Nat) : List (List PyData) := (List.range m).map fun p => (nearF g ts p).map prN
def Φ_ties_at : Ph := ph1 fun a ms R => ∃ (m : Nat) (ts : List Tie), a = .d (encW m ts) ∧ WebOk m ts ∧ R (.d (.list ((nearP (wI ts) ts m).map .list))) ms
theorem len_ties_at : ∀ as ms R, Φ_ties_at as ms R → as.length = 1 := ph1_len
theorem near_len (g : Tie → Int) (ts : List Tie) (p : Nat) : (nearF g ts p).length ≤ ts.length := List.length_filterMap_le _ _
theorem near_get (g : Tie → Int) (ts : List Tie) {m p : Nat} (h : p < m) : (nearP g ts m)[p]? = some ((nearF g ts p).map prN) := by
  unfold nearP
  rw [List.getElem?_map, List.getElem?_range h]
  rfl
theorem near_snoc (g : Tie → Int) (ts : List Tie) (t : Tie) {m : Nat} (h1 : t.1 < t.2.1) (h2 : t.2.1 < m) :
    nearP g (ts ++ [t]) m = ((nearP g ts m).set t.1 ((nearF g ts t.1).map prN ++ [prN (t.2.1, g t)])).set t.2.1 ((nearF g ts t.2.1).map prN ++ [prN (t.1, g t)]) := by
  apply List.ext_getElem?
  intro p
  have hl : (nearP g ts m).length = m := by simp [nearP]
  by_cases hp : p < m
  · rw [near_get g _ hp]
    unfold nearF
    rw [List.filterMap_append, List.map_append]
    by_cases e2 : p = t.2.1
    · subst e2
      rw [List.getElem?_set_self (by rw [List.length_set, hl]; exact h2)]
      rw [List.filterMap_cons, if_neg (by omega), if_pos rfl]
      rfl
    · rw [List.getElem?_set_ne (Ne.symm e2)]
      by_cases e1 : p = t.1
      · subst e1
        rw [List.getElem?_set_self (by omega), List.filterMap_cons, if_pos rfl]
        rfl
      · rw [List.getElem?_set_ne (Ne.symm e1), near_get g _ hp, List.filterMap_cons, if_neg (Ne.symm e1), if_neg (Ne.symm e2)]
        unfold nearF
        simp
  · rw [List.getElem?_eq_none (by simp [nearP]; omega), List.getElem?_eq_none (by simp [nearP]; omega)]
theorem rows_set (n : Nat) (ms : List MD) (ess : List (List PyData)) (hn : ms.length = n) {p : Nat} (hp : p < ess.length) (x : List PyData) : (ms ++ rowsM n ess).set (n + p) (.l x) = ms ++ rowsM n (ess.set p x) := by
  subst hn
  rw [List.set_append_right _ _ (by omega)]
  unfold rowsM
  have : ms.length + p - ms.length = p := by omega
  rw [this, List.set_append_left _ _ (by simp; exact hp), List.map_set, List.length_set]
theorem rd_ties_at {K : PySem.W.Frag} : ∀ as ms R, Φ_ties_at as ms R → S K (t_ties_at K Φ_whole_weights) (as ++ List.replicate (7 - as.length) .u) ms (fin R) := by
  rintro as ms R ⟨a, rfl, m, ts, rfl, hw, r⟩
  have hl := hw.len
  have hm60 := hw.m60
  unfold t_ties_at
  refine s_newLL ?_
  walk_at "evs"
  refine ⟨by omega, ?_⟩
  refine s_seq (s_forM (js := [3, 4, 5, 6]) ?_)
  walk_at "evs"
  refine ⟨_, rfl, m, ts, rfl, hw, ?_⟩
  walk_at "evs"
  have h0 : List.replicate m ([] : List PyData) = nearP (wI ts) [] m := by
    apply List.ext_getElem?
    intro p
    by_cases hp : p < m
    · rw [near_get _ _ hp, List.getElem?_replicate, if_pos hp]
      rfl
    · rw [List.getElem?_eq_none (by simp; omega), List.getElem?_eq_none (by simp [nearP]; omega)]
  have nl : ∀ us, (nearP (wI ts) us m).length = m := fun us => by simp [nearP]
  refine ⟨_, _, _, rfl, .d _, fun k ds' ms' => ∃ o2 o3 o4 o5 o6 : SD, ds' = [.d (encW m ts), .m (ms.length + m), o2, o3, o4, o5, o6] ∧ ms' = ms ++ rowsM ms.length (nearP (wI ts) (ts.take k) m), ⟨.u, .u, .u, .u, .u, rfl, by rw [h0]; rfl⟩, ?_, ?_⟩
  · rintro k e f ds' ms' he hf ⟨o2, o3, o4, o5, o6, rfl, rfl⟩
    rw [List.getElem?_map] at he
    rw [List.getElem?_map, List.getElem?_map] at hf
    cases q : ts[k]? with
    | none => rw [q] at he; cases he
    | some t =>
      rw [q] at he hf
      have e1 := (Option.some.inj he).symm
      have e2 := (Option.some.inj hf).symm
      subst e1 e2
      have ht := hw.all t (List.mem_of_getElem? q)
      have t1 := ht.lt
      have t2 := ht.lm
      have kl : (ts.take k).length ≤ 170 := by rw [List.length_take]; omega
      refine eg_tup rfl (egs_cons (eg_tup rfl (egs_cons (eg_name (egs_cons (eg_name (egs_cons (eg_name (egs_nil (egs_cons (eg_name (egs_nil ?_))))))))))))
      have top : ∀ ess : List (List PyData), ess.length = m → (ms ++ rowsM ms.length ess)[ms.length + m]? = some (.r (List.range' ms.length m)) := fun ess e => by
        have := rows_top ms.length ms ess
        rw [e] at this
        exact this
      have rg : ∀ p, p < m → (List.range' ms.length m)[p]? = some (ms.length + p) := fun p hp => by
        rw [List.getElem?_range' hp]
        simp
      have c1 := near_len (wI ts) (ts.take k) t.1
      have c2 := near_len (wI ts) (ts.take k) t.2.1
      have g1 := near_get (wI ts) (ts.take k) (show t.1 < m by omega)
      have g2 := near_get (wI ts) (ts.take k) t2
      refine s_seq (s_drop (e_append (e_op (e_varm rfl (e_var rfl (rr_ixR ⟨ms.length + m, t.1, ms.length + t.1, _, rfl, rfl, top _ (nl _), rg _ (by omega), _, rfl, ?_⟩))))))
      refine e_tup (ea_cons (e_var rfl (ea_cons (e_var rfl (ea_nil ⟨_, (rfl : _ = List.map SD.d [_, _]), Nat.le_of_ble_eq_true rfl, ?_⟩)))))
      refine ⟨_, _, rfl, rows_at _ _ _ g1, by rw [List.length_map]; omega, ?_⟩
      rw [rows_set _ _ _ rfl (by rw [nl]; omega)]
      have g3 : ((nearP (wI ts) (ts.take k) m).set t.1 ((nearF (wI ts) (ts.take k) t.1).map prN ++ [PyData.tuple [.int t.2.1, .int (wI ts t)]]))[t.2.1]? = some ((nearF (wI ts) (ts.take k) t.2.1).map prN) := by
        rw [List.getElem?_set_ne (by omega)]
        exact g2
      have l3 : ((nearP (wI ts) (ts.take k) m).set t.1 ((nearF (wI ts) (ts.take k) t.1).map prN ++ [PyData.tuple [.int t.2.1, .int (wI ts t)]])).length = m := by rw [List.length_set, nl]
      refine s_drop (e_append (e_op (e_varm rfl (e_var rfl (rr_ixR ⟨ms.length + m, t.2.1, ms.length + t.2.1, _, rfl, rfl, top _ l3, rg _ t2, _, rfl, ?_⟩)))))
      refine e_tup (ea_cons (e_var rfl (ea_cons (e_var rfl (ea_nil ⟨_, (rfl : _ = List.map SD.d [_, _]), Nat.le_of_ble_eq_true rfl, ?_⟩)))))
      refine ⟨_, _, rfl, rows_at _ _ _ g3, by rw [List.length_map]; omega, ?_⟩
      rw [rows_set _ _ _ rfl (by rw [l3]; omega)]
      refine ⟨_, _, _, _, _, rfl, ?_⟩
      rw [take_snoc q, near_snoc _ _ _ t1 t2]
  · rintro ds' ms' ⟨o2, o3, o4, o5, o6, rfl, rfl⟩
    walk_at "evs"
    have e : ts.take (min (ts.map encT).length ((ts.map (wI ts)).map PyData.int).length) = ts := by
      rw [List.take_of_length_le]
      simp
    rw [e]
    refine ⟨ms, _, rfl, rfl, nl _, ?_⟩
    show R (if ms.length + m < ms.length then _ else if ms.length + m = ms.length + (nearP (wI ts) ts m).length then _ else _) ms
    rw [if_neg (by omega), if_pos (by rw [nl])]
    exact r

def befF (g : Tie → Int) (ts : List Tie) (p : Nat) : List (Nat × Int) := (nearF g ts p).filter fun o => decide (o.1 < p)
def sI (g : Tie → Int) (ts : List Tie) (bits : List Int) (p : Nat) (b : Int) : Int := (((befF g ts p).filter fun o => decide (bits.getD o.1 0 = b)).map Prod.snd).sum
def grI (g : Tie → Int) (ts : List Tie) : Nat → List Int
  | 0 => []
  | n + 1 => grI g ts n ++ [if sI g ts (grI g ts n) n 1 < sI g ts (grI g ts n) n 0 then 1 else 0]
theorem gr_len (g : Tie → Int) (ts : List Tie) : ∀ n, (grI g ts n).length = n
  | 0 => rfl
  | n + 1 => by simp [grI, gr_len g ts n]
def Φ_greedy : Ph := ph1 fun a ms R => ∃ (m : Nat) (ts : List Tie), a = .d (encW m ts) ∧ WebOk m ts ∧ R (.d (.tuple ((grI (wI ts) ts m).map .int))) ms
theorem len_greedy : ∀ as ms R, Φ_greedy as ms R → as.length = 1 := ph1_len
theorem bit_at {bs : List Int} {i : Nat} (h : i < bs.length) : (bs.map PyData.int)[i]? = some (.int (bs.getD i 0)) := by
  rw [List.getElem?_map, List.getElem?_eq_getElem h]
  simp [List.getD, h]
theorem rd_greedy {K : PySem.W.Frag} : ∀ as ms R, Φ_greedy as ms R → S K (t_greedy K Φ_ties_at) (as ++ List.replicate (9 - as.length) .u) ms (fin R) := by
  rintro as ms R ⟨a, rfl, m, ts, rfl, hw, r⟩
  have hl := hw.len
  have hm60 := hw.m60
  unfold t_greedy
  refine s_seq (s_asg ?_)
  walk_at "evs"
  refine ⟨_, rfl, m, ts, rfl, hw, ?_⟩
  refine s_new (e_lst (ea_nil ⟨[], rfl, Nat.zero_le _, _, rfl, ?_⟩))
  refine s_seq (s_forR (js := [3]) ?_)
  walk_at "evs"
  have nl : (nearP (wI ts) ts m).length = m := by simp [nearP]
  refine ⟨⟨by omega, by omega⟩, fun k ds' ms' => ∃ o3 o4 o5 o6 : SD, ds' = [.d (encW m ts), .d (.list ((nearP (wI ts) ts m).map .list)), .m ms.length, o3, o4, o5, o6, .u, .u] ∧ ms' = ms ++ [.l ((grI (wI ts) ts k).map .int)], ⟨_, _, _, _, rfl, rfl⟩, ?_, ?_⟩
  · rintro k ds' ms' hk ⟨o3, o4, o5, o6, rfl, rfl⟩
    have hk : k < m := by simpa using hk
    have gl := gr_len (wI ts) ts k
    have c1 := near_len (wI ts) ts k
    have bl : (befF (wI ts) ts k).length ≤ ts.length := by
      unfold befF
      exact Nat.le_trans (List.length_filter_le _ _) c1
    have bm : ∀ o ∈ befF (wI ts) ts k, o.1 < k := fun o ho => of_decide_eq_true (List.mem_filter.mp ho).2
    refine eg_name ?_
    refine s_seq (s_asg ?_)
    refine e_lcL (js := [7, 8]) (by simp) (e_op (e_var rfl (e_var rfl ?_)))
    refine rr_ix ⟨_, _, .list ((nearF (wI ts) ts k).map prN), .inl (.d _), rfl, atI_nat (by rw [List.getElem?_map, near_get _ _ hk]; rfl), ?_⟩
    refine ⟨_, .d _, by rw [List.length_map]; omega, fun i acc ms' => acc = (((nearF (wI ts) ts k).take i).filter fun o => decide (o.1 < k)).map prN ∧ ms' = ms ++ [.l ((grI (wI ts) ts k).map .int)], ⟨rfl, rfl⟩, ?_, ?_⟩
    · rintro i e acc ms' hi ⟨rfl, rfl⟩
      rw [List.getElem?_map] at hi
      cases q : (nearF (wI ts) ts k)[i]? with
      | none => rw [q] at hi; cases hi
      | some o =>
        rw [q] at hi
        have e1 := (Option.some.inj hi).symm
        subst e1
        refine eg_tup rfl (egs_cons (eg_name (egs_cons (eg_name (egs_nil ?_)))))
        walk_at "evs"
        refine ⟨fun h => ?_, fun h => ?_⟩
        · have hlt : o.1 < k := by
            have := of_decide_eq_true h
            omega
          walk_at "evs"
          refine ⟨?_, rfl⟩
          rw [take_snoc q, List.filter_append, List.filter_cons, if_pos (decide_eq_true hlt)]
          simp
        · have hlt : ¬ o.1 < k := by
            have := of_decide_eq_false h
            omega
          refine ⟨?_, rfl⟩
          rw [take_snoc q, List.filter_append, List.filter_cons, if_neg (by rw [decide_eq_false hlt]; decide)]
          simp
    rintro acc ms' ⟨rfl, rfl⟩
    rw [List.length_map, List.take_length]
    show S K _ [_, _, _, _, SD.d (.list ((befF (wI ts) ts k).map prN)), _, _, _, _] _ _
    have summ : ∀ (b : Int) (ds' : List SD) (R' : RS), ds'[2]? = some (.m ms.length) → ds'[4]? = some (.d (.list ((befF (wI ts) ts k).map prN))) → 9 ≤ ds'.length → R' (.d (.int (sI (wI ts) ts (grI (wI ts) ts k) k b))) (ms ++ [.l ((grI (wI ts) ts k).map .int)]) →
        E K (tCB (rSum K) (tCons (tLc (iList K (tVar 4)) (gTup K 2 (gCons (gName 7) (gCons (gName 8) gNil))) (tTest (tOp (rEqD K) (tOp (rIx K) (tVar 2) (tVar 7)) (tC (.int b)))) (tVar 8) [7, 8]) tNil)) ds' (ms ++ [.l ((grI (wI ts) ts k).map .int)]) R' := by
      intro b ds' R' h2 h4 h9 hR
      refine e_cb (ea_cons (e_lcL (js := [7, 8]) (by simp) (e_var h4 ?_)))
      refine ⟨_, .d _, by rw [List.length_map]; omega, fun i acc ms' => acc = ((((befF (wI ts) ts k).take i).filter fun o => decide ((grI (wI ts) ts k).getD o.1 0 = b)).map Prod.snd).map .int ∧ ms' = ms ++ [.l ((grI (wI ts) ts k).map .int)], ⟨rfl, rfl⟩, ?_, ?_⟩
      · rintro i e acc ms' hi ⟨rfl, rfl⟩
        rw [List.getElem?_map] at hi
        cases q : (befF (wI ts) ts k)[i]? with
        | none => rw [q] at hi; cases hi
        | some o =>
          rw [q] at hi
          have e1 := (Option.some.inj hi).symm
          subst e1
          have ol := bm o (List.mem_of_getElem? q)
          have w2 : ((wipeD ds' [7, 8]).set 7 (.d (.int o.1)))[2]? = some (.m ms.length) := by
            show (((ds'.set 8 SD.u).set 7 SD.u).set 7 _)[2]? = _
            rw [List.getElem?_set_ne (by decide), List.getElem?_set_ne (by decide), List.getElem?_set_ne (by decide)]
            exact h2
          refine eg_tup rfl (egs_cons (eg_name (egs_cons (eg_name (egs_nil ?_)))))
          have v2 : (((wipeD ds' [7, 8]).set 7 (.d (.int o.1))).set 8 (.d (.int o.2)))[2]? = some (.m ms.length) := by
            rw [List.getElem?_set_ne (by decide)]
            exact w2
          have v7 : (((wipeD ds' [7, 8]).set 7 (.d (.int o.1))).set 8 (.d (.int o.2)))[7]? = some (.d (.int o.1)) := by
            rw [List.getElem?_set_ne (by decide)]
            show (((ds'.set 8 SD.u).set 7 SD.u).set 7 _)[7]? = _
            rw [List.getElem?_set_self (by simp; omega)]
          have v8 : (((wipeD ds' [7, 8]).set 7 (.d (.int o.1))).set 8 (.d (.int o.2)))[8]? = some (.d (.int o.2)) := by
            rw [List.getElem?_set_self (by show 8 < (((ds'.set 8 SD.u).set 7 SD.u).set 7 _).length; simp; omega)]
          refine et_test (e_op (e_op (e_varm v2 (e_var v7 ?_))))
          refine rr_ix ⟨_, _, _, .inl (.m (get1 _ _)), rfl, atI_nat (bit_at (by omega)), ?_⟩
          refine e_int ?_
          refine rr_eq ⟨_, _, .d _, .d _, shaped_int _, shaped_int _, ?_⟩
          rw [eqv_int]
          refine ⟨_, rfl, fun h => ?_, fun h => ?_⟩
          · refine e_var v8 ⟨_, rfl, ?_, rfl⟩
            rw [take_snoc q, List.filter_append, List.filter_cons, if_pos h]
            simp
          · refine ⟨?_, rfl⟩
            rw [take_snoc q, List.filter_append, List.filter_cons, if_neg (by rw [h]; decide)]
            simp
      · rintro acc ms' ⟨rfl, rfl⟩
        refine ea_nil (rc_sum ⟨_, _, rfl, .d _, ?_⟩)
        rw [List.length_map, List.take_length]
        exact hR
    refine s_seq (s_asg (summ 0 _ _ rfl rfl (by simp) ?_))
    refine s_seq (s_asg (summ 1 _ _ rfl rfl (by simp) ?_))
    refine s_drop (e_append (e_varm rfl ⟨_, rfl, ?_⟩))
    walk_at "evs"
    have fin1 : ∀ x : Int, x = (if sI (wI ts) ts (grI (wI ts) ts k) k 1 < sI (wI ts) ts (grI (wI ts) ts k) k 0 then 1 else 0) → (ms ++ [MD.l ((grI (wI ts) ts k).map .int)]).set ms.length (.l ((grI (wI ts) ts k).map .int ++ [.int x])) = ms ++ [.l ((grI (wI ts) ts (k + 1)).map .int)] := fun x hx => by
      rw [set1, grI, List.map_append, ← hx]
      rfl
    refine ⟨fun h => ?_, fun h => ?_⟩
    · walk_at "evs"
      refine ⟨get1 _ _, by rw [List.length_map]; omega, ?_⟩
      refine ⟨_, _, _, _, rfl, fin1 1 ?_⟩
      rw [if_pos (of_decide_eq_true h)]
    · walk_at "evs"
      refine ⟨get1 _ _, by rw [List.length_map]; omega, ?_⟩
      refine ⟨_, _, _, _, rfl, fin1 0 ?_⟩
      rw [if_neg (of_decide_eq_false h)]
  · rintro ds' ms' ⟨o3, o4, o5, o6, rfl, rfl⟩
    walk_at "evs"
    refine rc_tuple ⟨_, _, rfl, .inl (.m (get1 _ _)), ?_⟩
    refine ⟨_, _, rfl, rfl, ?_⟩
    exact r

def behF (bs : List Int) (p : Nat) (b : Int) (t : Tie) : Bool := decide (t.2.1 = p) && !decide (bs.getD t.1 0 = b)
def V (ts : List Tie) (bs : List Int) (p : Nat) (b : Int) : Rat := sumV ((ts.filter (behF bs p b)).map wF)
def grQ (ts : List Tie) : Nat → List Int
  | 0 => []
  | n + 1 => grQ ts n ++ [if V ts (grQ ts n) n 0 < V ts (grQ ts n) n 1 then 1 else 0]
def B01 (vs : List Int) : Prop := ∀ v ∈ vs, v = 0 ∨ v = 1
theorem grQ_len (ts : List Tie) : ∀ n, (grQ ts n).length = n
  | 0 => rfl
  | n + 1 => by simp [grQ, grQ_len ts n]
theorem grQ_01 (ts : List Tie) : ∀ n, B01 (grQ ts n)
  | 0 => fun v hv => by cases hv
  | n + 1 => fun v hv => by
    rw [grQ] at hv
    rcases List.mem_append.mp hv with z | z
    · exact grQ_01 ts n v z
    · rw [List.mem_singleton.mp z]
      split
      · exact .inr rfl
      · exact .inl rfl
theorem get01 {vs : List Int} (h : B01 vs) (i : Nat) : vs.getD i 0 = 0 ∨ vs.getD i 0 = 1 := by
  by_cases hi : i < vs.length
  · have : vs.getD i 0 ∈ vs := by simp [List.getD, hi]
    exact h _ this
  · left
    simp [List.getD, hi]
theorem bef_is (g : Tie → Int) (p : Nat) : ∀ ts : List Tie, (∀ t ∈ ts, t.1 < t.2.1) → befF g ts p = (ts.filter fun t => decide (t.2.1 = p)).map fun t => (t.1, g t)
  | [], _ => rfl
  | t :: r, h => by
    have ih := bef_is g p r fun x hx => h x (by simp [hx])
    have ht := h t (by simp)
    unfold befF nearF at ih ⊢
    rw [List.filterMap_cons, List.filter_cons]
    by_cases e1 : t.1 = p
    · rw [if_pos e1]
      show List.filter _ ((t.2.1, g t) :: _) = _
      rw [List.filter_cons, if_neg (by simp; omega), ih, if_neg (by simp; omega)]
    · rw [if_neg e1]
      by_cases e2 : t.2.1 = p
      · rw [if_pos e2]
        show List.filter _ ((t.1, g t) :: _) = _
        rw [List.filter_cons, if_pos (by simp; omega), ih, if_pos (by simp; exact e2), List.map_cons]
      · rw [if_neg e2]
        show List.filter _ (List.filterMap _ r) = _
        rw [ih, if_neg (by simp; exact e2)]
theorem sI_is (g : Tie → Int) (ts : List Tie) (bs : List Int) (p : Nat) (b : Int) (h : ∀ t ∈ ts, t.1 < t.2.1) : sI g ts bs p b = ((ts.filter fun t => decide (t.2.1 = p) && decide (bs.getD t.1 0 = b)).map g).sum := by
  unfold sI
  rw [bef_is g p ts h]
  congr 1
  induction ts with
  | nil => rfl
  | cons t r ih =>
    have ih := ih fun x hx => h x (by simp [hx])
    rw [List.filter_cons, List.filter_cons]
    by_cases e2 : t.2.1 = p
    · rw [if_pos (by simp; exact e2), List.map_cons, List.filter_cons]
      by_cases e3 : bs.getD t.1 0 = b
      · rw [if_pos (decide_eq_true e3), if_pos (by rw [decide_eq_true e2, decide_eq_true e3]; rfl), List.map_cons, List.map_cons, ih]
      · rw [if_neg (by rw [decide_eq_false e3]; decide), if_neg (by rw [decide_eq_false e3, Bool.and_false]; decide), ih]
    · rw [if_neg (by simp; exact e2), if_neg (by rw [decide_eq_false e2, Bool.false_and]; decide), ih]
theorem sum_scl {m : Nat} {ts : List Tie} (hw : WebOk m ts) : ∀ us : List Tie, (∀ t ∈ us, t ∈ ts) → (((us.map (wI ts)).sum : Int) : Rat) = (scl ts : Rat) * sumV (us.map wF)
  | [], _ => by
    show ((0 : Int) : Rat) = _ * 0
    grind
  | t :: r, h => by
    have ih := sum_scl hw r fun x hx => h x (by simp [hx])
    have e := wI_val hw (h t (by simp))
    show ((wI ts t + (r.map (wI ts)).sum : Int) : Rat) = (scl ts : Rat) * (val (wF t) + sumV (r.map wF))
    rw [Rat.intCast_add, ih, e]
    show _ = (scl ts : Rat) * (val t.2.2 + _)
    grind
theorem sI_V {m : Nat} {ts : List Tie} (hw : WebOk m ts) {bs : List Int} (h01 : B01 bs) (p : Nat) : ((sI (wI ts) ts bs p 0 : Int) : Rat) = (scl ts : Rat) * V ts bs p 1 ∧ ((sI (wI ts) ts bs p 1 : Int) : Rat) = (scl ts : Rat) * V ts bs p 0 := by
  have hlt : ∀ t ∈ ts, t.1 < t.2.1 := fun t ht => (hw.all t ht).lt
  have f0 : (ts.filter fun t => decide (t.2.1 = p) && decide (bs.getD t.1 0 = 0)) = ts.filter (behF bs p 1) := by
    apply List.filter_congr
    intro t _
    unfold behF
    rcases get01 h01 t.1 with e | e <;> rw [e] <;> rfl
  have f1 : (ts.filter fun t => decide (t.2.1 = p) && decide (bs.getD t.1 0 = 1)) = ts.filter (behF bs p 0) := by
    apply List.filter_congr
    intro t _
    unfold behF
    rcases get01 h01 t.1 with e | e <;> rw [e] <;> rfl
  constructor
  · rw [sI_is _ _ _ _ _ hlt, f0, sum_scl hw _ fun t ht => (List.mem_filter.mp ht).1]
    rfl
  · rw [sI_is _ _ _ _ _ hlt, f1, sum_scl hw _ fun t ht => (List.mem_filter.mp ht).1]
    rfl
theorem gr_same {m : Nat} {ts : List Tie} (hw : WebOk m ts) : ∀ n, grI (wI ts) ts n = grQ ts n
  | 0 => rfl
  | n + 1 => by
    rw [grI, grQ, gr_same hw n]
    obtain ⟨e0, e1⟩ := sI_V hw (grQ_01 ts n) n
    have hs : (0 : Rat) < (scl ts : Rat) := by exact_mod_cast (scl_ok hw).1
    have iff : sI (wI ts) ts (grQ ts n) n 1 < sI (wI ts) ts (grQ ts n) n 0 ↔ V ts (grQ ts n) n 0 < V ts (grQ ts n) n 1 := by
      rw [← Rat.intCast_lt_intCast, e0, e1]
      exact Rat.mul_lt_mul_left hs
    by_cases h : V ts (grQ ts n) n 0 < V ts (grQ ts n) n 1
    · rw [if_pos h, if_pos (iff.mpr h)]
    · rw [if_neg h, if_neg fun z => h (iff.mp z)]
theorem V_zero {ts : List Tie} (h : ∀ t ∈ ts, t.1 < t.2.1) (bs : List Int) (b : Int) : V ts bs 0 b = 0 := by
  have : ts.filter (behF bs 0 b) = [] := by
    rw [List.filter_eq_nil_iff]
    intro t ht
    have := h t ht
    unfold behF
    rw [decide_eq_false (by omega)]
    simp
  unfold V
  rw [this]
  rfl
theorem grQ_one {ts : List Tie} (h : ∀ t ∈ ts, t.1 < t.2.1) : grQ ts 1 = [0] := by
  rw [grQ, V_zero h, V_zero h, if_neg (by grind)]
  rfl
/-! half of all -/
theorem grQ_get (ts : List Tie) {n i : Nat} (h : i < n) : (grQ ts (n + 1)).getD i 0 = (grQ ts n).getD i 0 := by
  rw [grQ]
  have := grQ_len ts n
  simp [List.getD, List.getElem?_append_left (show i < (grQ ts n).length by omega)]
theorem grQ_pre (ts : List Tie) {i : Nat} : ∀ {n : Nat}, i < n → (grQ ts n).getD i 0 = (grQ ts (i + 1)).getD i 0
  | n + 1, h => by
    by_cases e : i = n
    · subst e; rfl
    · rw [grQ_get ts (by omega), grQ_pre ts (n := n) (by omega)]
def cutW (ts : List Tie) (bs : List Int) : Rat := sumV ((ts.filter fun t => !decide (bs.getD t.1 0 = bs.getD t.2.1 0)).map wF)
theorem sumV_cons (f : Int × Int) (fs : List (Int × Int)) : sumV (f :: fs) = val f + sumV fs := rfl
/-- what is lost and won at the last point -/
theorem sum_parts (ts : List Tie) (p : Tie → Bool) (q : Tie → Bool) : sumV ((ts.filter p).map wF) = sumV ((ts.filter fun t => p t && q t).map wF) + sumV ((ts.filter fun t => p t && !q t).map wF) := by
  induction ts with
  | nil => show (0 : Rat) = 0 + 0; grind
  | cons t r ih =>
    rw [List.filter_cons, List.filter_cons, List.filter_cons]
    cases hp : p t <;> cases hq : q t <;> simp only [Bool.and_true, Bool.and_false, Bool.false_and, Bool.true_and, Bool.not_true, Bool.not_false, if_true, if_false, Bool.false_eq_true, List.map_cons, sumV_cons] <;> grind
theorem half_step {ts : List Tie} (hlt : ∀ t ∈ ts, t.1 < t.2.1) (n : Nat) :
    sumV ((ts.filter fun t => decide (t.2.1 = n)).map wF) ≤ 2 * sumV ((ts.filter fun t => decide (t.2.1 = n) && !decide ((grQ ts (n + 1)).getD t.1 0 = (grQ ts (n + 1)).getD t.2.1 0)).map wF) := by
  have l1 := grQ_len ts n
  have last : (grQ ts (n + 1)).getD n 0 = if V ts (grQ ts n) n 0 < V ts (grQ ts n) n 1 then 1 else 0 := by
    rw [grQ]
    simp [List.getD, l1]
  have e0 : ∀ b : Int, (grQ ts (n + 1)).getD n 0 = b → sumV ((ts.filter fun t => decide (t.2.1 = n) && !decide ((grQ ts (n + 1)).getD t.1 0 = (grQ ts (n + 1)).getD t.2.1 0)).map wF) = V ts (grQ ts n) n b := fun b hb => by
    unfold V
    congr 2
    apply List.filter_congr
    intro t ht
    have := hlt t ht
    unfold behF
    by_cases e : t.2.1 = n
    · rw [decide_eq_true e, e, hb, grQ_get ts (by omega)]
    · rw [decide_eq_false e]
      rfl
  have all : sumV ((ts.filter fun t => decide (t.2.1 = n)).map wF) = V ts (grQ ts n) n 0 + V ts (grQ ts n) n 1 := by
    rw [sum_parts ts (fun t => decide (t.2.1 = n)) (fun t => !decide ((grQ ts n).getD t.1 0 = 0))]
    have : (ts.filter fun t => decide (t.2.1 = n) && !(!decide ((grQ ts n).getD t.1 0 = 0))) = ts.filter (behF (grQ ts n) n 1) := by
      apply List.filter_congr
      intro t _
      unfold behF
      rcases get01 (grQ_01 ts n) t.1 with e | e <;> rw [e] <;> rfl
    rw [this]
    rfl
  rw [all]
  by_cases h : V ts (grQ ts n) n 0 < V ts (grQ ts n) n 1
  · rw [e0 1 (by rw [last, if_pos h])]
    grind
  · rw [e0 0 (by rw [last, if_neg h])]
    grind
theorem half_all {ts : List Tie} (hlt : ∀ t ∈ ts, t.1 < t.2.1) (N : Nat) : ∀ n, n ≤ N → sumV ((ts.filter fun t => decide (t.2.1 < n)).map wF) ≤ 2 * sumV ((ts.filter fun t => decide (t.2.1 < n) && !decide ((grQ ts N).getD t.1 0 = (grQ ts N).getD t.2.1 0)).map wF)
  | 0, _ => by
    have : (ts.filter fun t => decide (t.2.1 < 0)) = [] := by
      rw [List.filter_eq_nil_iff]
      intro t _
      simp
    have e2 : (ts.filter fun t => decide (t.2.1 < 0) && !decide ((grQ ts N).getD t.1 0 = (grQ ts N).getD t.2.1 0)) = [] := by
      rw [List.filter_eq_nil_iff]
      intro t _
      simp
    rw [this, e2]
    show (0 : Rat) ≤ 2 * 0
    grind
  | n + 1, hn => by
    have ih := half_all hlt N n (by omega)
    have hs := half_step hlt n
    have sp : ∀ q : Tie → Bool, sumV ((ts.filter fun t => decide (t.2.1 < n + 1) && q t).map wF) = sumV ((ts.filter fun t => decide (t.2.1 < n) && q t).map wF) + sumV ((ts.filter fun t => decide (t.2.1 = n) && q t).map wF) := fun q => by
      rw [sum_parts ts (fun t => decide (t.2.1 < n + 1) && q t) (fun t => decide (t.2.1 < n))]
      congr 3
      · apply List.filter_congr
        intro t _
        by_cases h1 : t.2.1 < n
        · rw [decide_eq_true h1, decide_eq_true (show t.2.1 < n + 1 by omega)]; simp
        · rw [decide_eq_false h1]; simp
      · apply List.filter_congr
        intro t _
        by_cases h1 : t.2.1 = n
        · rw [decide_eq_true h1, decide_eq_true (show t.2.1 < n + 1 by omega), decide_eq_false (show ¬ t.2.1 < n by omega)]; simp
        · rw [decide_eq_false h1]
          by_cases h2 : t.2.1 < n
          · rw [decide_eq_true h2]; simp
          · rw [decide_eq_false (show ¬ t.2.1 < n + 1 by omega)]; simp
    have a1 := sp fun _ => true
    simp only [Bool.and_true] at a1
    have a2 := sp fun t => !decide ((grQ ts N).getD t.1 0 = (grQ ts N).getD t.2.1 0)
    have a3 : (ts.filter fun t => decide (t.2.1 = n) && !decide ((grQ ts N).getD t.1 0 = (grQ ts N).getD t.2.1 0)) = ts.filter fun t => decide (t.2.1 = n) && !decide ((grQ ts (n + 1)).getD t.1 0 = (grQ ts (n + 1)).getD t.2.1 0) := by
      apply List.filter_congr
      intro t ht
      by_cases e : t.2.1 = n
      · have := hlt t ht
        rw [grQ_pre ts (i := t.1) (n := N) (by omega), grQ_pre ts (i := t.2.1) (n := N) (by omega), grQ_pre ts (i := t.1) (n := n + 1) (by omega), grQ_pre ts (i := t.2.1) (n := n + 1) (by omega)]
      · rw [decide_eq_false e]; simp
    rw [a1, a2, a3]
    grind
theorem half_web {m : Nat} {ts : List Tie} (hw : WebOk m ts) : sumV (ts.map wF) ≤ 2 * cutW ts (grQ ts m) := by
  have := half_all (fun t ht => (hw.all t ht).lt) m m (Nat.le_refl _)
  have e1 : (ts.filter fun t => decide (t.2.1 < m)) = ts := by
    rw [List.filter_eq_self]
    intro t ht
    exact decide_eq_true (hw.all t ht).lm
  have e2 : (ts.filter fun t => decide (t.2.1 < m) && !decide ((grQ ts m).getD t.1 0 = (grQ ts m).getD t.2.1 0)) = ts.filter fun t => !decide ((grQ ts m).getD t.1 0 = (grQ ts m).getD t.2.1 0) := by
    apply List.filter_congr
    intro t ht
    rw [decide_eq_true (hw.all t ht).lm, Bool.true_and]
  rw [e1, e2] at this
  exact this

def Φ__law_cut_behind : Ph := ph4 fun a b c d ms R => ∃ (m : Nat) (ts : List Tie) (bs : List Int) (k : Nat) (x : Int), a = .d (encW m ts) ∧ b = .m k ∧ c = .d (.int bs.length) ∧ d = .d (.int x) ∧ WebOk m ts ∧ ms[k]? = some (.l (bs.map .int)) ∧ R (.d (pr (sumF ((ts.filter (behF bs bs.length x)).map wF)))) ms
theorem len__law_cut_behind : ∀ as ms R, Φ__law_cut_behind as ms R → as.length = 4 := ph4_len
theorem sum_ok {fs : List (Int × Int)} (hw : ∀ f ∈ fs, Wt f) (hl : fs.length ≤ 170) : Lo (sumF fs) ∧ val (sumF fs) = sumV fs ∧ Bd 8000 (sumF fs).1 ∧ Bd 2000 (sumF fs).2 := by
  have s := sumF_lo fs fun f hf => by have := (hw f hf).lo.pos; omega
  have b := fold_bd fs (0, 1) 1 1 (by decide) (by decide) (Bd.of (by decide)) (Bd.of (by decide)) fun f hf => wt_ok (hw f hf)
  exact ⟨s.1, s.2, b.1.mono (by omega), b.2.mono (by omega)⟩
theorem web_wts {m : Nat} {ts : List Tie} (hw : WebOk m ts) (p : Tie → Bool) (k : Nat) : (∀ f ∈ ((ts.take k).filter p).map wF, Wt f) ∧ (((ts.take k).filter p).map wF).length ≤ 170 := by
  refine ⟨fun f hf => ?_, ?_⟩
  · obtain ⟨t, ht, rfl⟩ := List.mem_map.mp hf
    exact (hw.all t (List.mem_of_mem_take (List.mem_filter.mp ht).1)).w
  · have h1 := List.length_filter_le p (ts.take k)
    have h2 := hw.len
    rw [List.length_map]
    rw [List.length_take] at h1
    omega
theorem rd__law_cut_behind {K : PySem.W.Frag} : ∀ as ms R, Φ__law_cut_behind as ms R → S K (t__law_cut_behind K Φ__law_plus) (as ++ List.replicate (8 - as.length) .u) ms (fin R) := by
  rintro as ms R ⟨a, b, c, d, rfl, m, ts, bs, k, x, rfl, rfl, rfl, rfl, hw, hk, r⟩
  unfold t__law_cut_behind
  walk_at "evs"
  refine s_forT (js := [5, 6, 7]) ?_
  walk_at "evs"
  refine ⟨fun i ds' ms' => ∃ o5 o6 o7 : SD, ds' = [.d (encW m ts), .m k, .d (.int bs.length), .d (.int x), .d (pr (sumF (((ts.take i).filter (behF bs bs.length x)).map wF))), o5, o6, o7] ∧ ms' = ms, ⟨.u, .u, .u, rfl, rfl⟩, ?_, ?_⟩
  · rintro i e ds' ms' hi ⟨o5, o6, o7, rfl, rfl⟩
    rw [List.getElem?_map] at hi
    cases q : ts[i]? with
    | none => rw [q] at hi; cases hi
    | some t =>
      rw [q] at hi
      have e1 := (Option.some.inj hi).symm
      subst e1
      have ht := hw.all t (List.mem_of_getElem? q)
      have tl := ht.lt
      have no : behF bs bs.length x t = false → ∃ o5 o6 o7 : SD, [SD.d (encW m ts), .m k, .d (.int bs.length), .d (.int x), .d (pr (sumF (((ts.take i).filter (behF bs bs.length x)).map wF))), .d (.int t.1), .d (.int t.2.1), .d (pr t.2.2)] = [.d (encW m ts), .m k, .d (.int bs.length), .d (.int x), .d (pr (sumF (((ts.take (i + 1)).filter (behF bs bs.length x)).map wF))), o5, o6, o7] ∧ ms' = ms' := fun hb => by
        refine ⟨.d (.int t.1), .d (.int t.2.1), .d (pr t.2.2), ?_, rfl⟩
        rw [take_snoc q, List.filter_append, List.filter_cons, if_neg (by rw [hb]; decide)]
        simp
      refine eg_tup rfl (egs_cons (eg_name (egs_cons (eg_name (egs_cons (eg_name (egs_nil ?_)))))))
      walk_at "evs"
      refine rr_eq ⟨_, _, .d _, .d _, shaped_int _, shaped_int _, ?_⟩
      rw [eqv_int]
      refine ⟨_, rfl, fun h => ?_, fun h => ?_⟩
      · have hb : t.2.1 = bs.length := by
          have := of_decide_eq_true h
          omega
        walk_at "evs"
        refine rr_ix ⟨_, _, _, .inl (.m hk), rfl, atI_nat (bit_at (by omega)), ?_⟩
        walk_at "evs"
        refine rr_ne ⟨_, _, .d _, .d _, shaped_int _, shaped_int _, ?_⟩
        rw [eqv_int]
        refine ⟨_, rfl, fun h2 => ?_, fun h2 => ?_⟩
        · have yes : behF bs bs.length x t = true := by
            unfold behF
            rw [decide_eq_true hb, Bool.true_and]
            exact h2
          obtain ⟨w1, w2⟩ := web_wts hw (behF bs bs.length x) i
          obtain ⟨s1, _, s3, s4⟩ := sum_ok w1 w2
          have wt := ht.w
          walk_at "evs"
          refine ⟨_, _, rfl, _, _, rfl, rfl, s1.pos, wt.lo.pos, s3.mono (by decide), s4.mono (by decide), wt.b1.mono (by decide), wt.b2.mono (by decide), ?_⟩
          refine ⟨.d (.int t.1), .d (.int t.2.1), .d (pr t.2.2), ?_, rfl⟩
          rw [take_snoc q, List.filter_append, List.filter_cons, if_pos yes, List.map_append]
          show _ = [_, _, _, _, SD.d (pr (sumF (_ ++ [wF t]))), _, _, _]
          rw [foldl_snoc]
          rfl
        · have nob : behF bs bs.length x t = false := by
            unfold behF
            rw [decide_eq_true hb, Bool.true_and]
            exact h2
          exact s_next (no nob)
      · refine ⟨nofun, fun _ => ?_⟩
        have nob : behF bs bs.length x t = false := by
          unfold behF
          rw [decide_eq_false (by have := of_decide_eq_false h; omega), Bool.false_and]
        exact s_next (no nob)
  · rintro ds' ms' ⟨o5, o6, o7, rfl, rfl⟩
    walk_at "evs"
    rw [List.length_map, List.take_length]
    exact r

def Φ__law_greedy : Ph := ph1 fun a ms R => ∃ (m : Nat) (ts : List Tie), a = .d (encW m ts) ∧ WebOk m ts ∧ R (.d (.tuple ((grQ ts m).map .int))) ms
theorem len__law_greedy : ∀ as ms R, Φ__law_greedy as ms R → as.length = 1 := ph1_len
theorem rd__law_greedy {K : PySem.W.Frag} : ∀ as ms R, Φ__law_greedy as ms R → S K (t__law_greedy K Φ__law_less Φ__law_cut_behind) (as ++ List.replicate (4 - as.length) .u) ms (fin R) := by
  rintro as ms R ⟨a, rfl, m, ts, rfl, hw, r⟩
  have m1 := hw.m1
  have m60 := hw.m60
  unfold t__law_greedy
  refine s_new (e_lst (ea_cons (e_int (ea_nil ⟨[.int 0], rfl, by decide, _, rfl, ?_⟩))))
  refine s_seq (s_forR2 (js := [2]) ?_)
  walk_at "evs"
  refine ⟨⟨by omega, by omega, by omega, by omega⟩, fun i ds' ms' => ∃ o2 o3 : SD, ds' = [.d (encW m ts), .m ms.length, o2, o3] ∧ ms' = ms ++ [.l ((grQ ts (i + 1)).map .int)], ⟨.u, .u, rfl, by rw [grQ_one fun t ht => (hw.all t ht).lt]; rfl⟩, ?_, ?_⟩
  · rintro i ds' ms' hi ⟨o2, o3, rfl, rfl⟩
    have gl := grQ_len ts (i + 1)
    have hv : ∀ x : Int, Lo (sumF ((ts.filter (behF (grQ ts (i + 1)) (grQ ts (i + 1)).length x)).map wF)) ∧ val (sumF ((ts.filter (behF (grQ ts (i + 1)) (grQ ts (i + 1)).length x)).map wF)) = V ts (grQ ts (i + 1)) (i + 1) x ∧ Bd 8000 (sumF ((ts.filter (behF (grQ ts (i + 1)) (grQ ts (i + 1)).length x)).map wF)).1 ∧ Bd 2000 (sumF ((ts.filter (behF (grQ ts (i + 1)) (grQ ts (i + 1)).length x)).map wF)).2 := fun x => by
      have w := web_wts hw (behF (grQ ts (i + 1)) (grQ ts (i + 1)).length x) ts.length
      rw [List.take_length] at w
      have s := sum_ok w.1 w.2
      refine ⟨s.1, ?_, s.2.2⟩
      rw [s.2.1, gl]
      rfl
    have pt : ((1 : Int) + (i : Int)) = (((grQ ts (i + 1)).length : Nat) : Int) := by rw [gl]; omega
    refine eg_name ?_
    refine s_seq (s_asg (e_int ?_))
    refine s_mid (fun ds' ms' => ∃ x : Int, ds' = [.d (encW m ts), .m ms.length, .d (.int ((1 : Int) + (i : Int))), .d (.int x)] ∧ ms' = ms ++ [.l ((grQ ts (i + 1)).map .int)] ∧ x = if V ts (grQ ts (i + 1)) (i + 1) 0 < V ts (grQ ts (i + 1)) (i + 1) 1 then 1 else 0) ?_ ?_
    · walk_at "evs"
      refine ⟨_, _, _, _, rfl, m, ts, grQ ts (i + 1), ms.length, 0, rfl, rfl, by rw [← pt]; rfl, rfl, hw, get1 _ _, ?_⟩
      walk_at "evs"
      refine ⟨_, _, _, _, rfl, m, ts, grQ ts (i + 1), ms.length, 1, rfl, rfl, by rw [← pt]; rfl, rfl, hw, get1 _ _, ?_⟩
      walk_at "evs"
      refine ⟨_, _, rfl, _, _, rfl, rfl, (hv 0).1.pos, (hv 1).1.pos, (hv 0).2.2.1.mono (by decide), (hv 0).2.2.2.mono (by decide), (hv 1).2.2.1.mono (by decide), (hv 1).2.2.2.mono (by decide), ?_⟩
      rw [(hv 0).2.1, (hv 1).2.1]
      refine ⟨_, rfl, fun h => ?_, fun h => ?_⟩
      · walk_at "evs"
        exact ⟨rfl, by rw [if_pos (of_decide_eq_true h)]⟩
      · walk_at "evs"
        exact ⟨rfl, by rw [if_neg (of_decide_eq_false h)]⟩
    · rintro ds' ms' ⟨x, rfl, rfl, hx⟩
      refine s_drop (e_append (e_varm rfl ⟨_, rfl, e_var rfl ?_⟩))
      refine ⟨_, _, rfl, get1 _ _, by rw [List.length_map]; omega, ?_⟩
      rw [set1]
      refine ⟨_, _, rfl, ?_⟩
      have e : grQ ts (i + 1 + 1) = grQ ts (i + 1) ++ [x] := by rw [hx]; rfl
      rw [e, List.map_append]
      rfl
  · rintro ds' ms' ⟨o2, o3, rfl, rfl⟩
    walk_at "evs"
    refine rc_tuple ⟨_, _, rfl, .inl (.m (get1 _ _)), ?_⟩
    refine ⟨_, _, rfl, rfl, ?_⟩
    have e : ((m : Int) - 1).toNat + 1 = m := by omega
    rw [e]
    exact r

def Φ__law_half : Ph := ph2 fun a b ms R => ∃ (m : Nat) (ts : List Tie), a = .d (encW m ts) ∧ b = .d (.tuple ((grQ ts m).map .int)) ∧ WebOk m ts ∧ R (.d (.bool true)) ms
theorem len__law_half : ∀ as ms R, Φ__law_half as ms R → as.length = 2 := ph2_len
def cB (bs : List Int) (t : Tie) : Bool := !decide (bs.getD t.1 0 = bs.getD t.2.1 0)
theorem rd__law_half {K : PySem.W.Frag} : ∀ as ms R, Φ__law_half as ms R → S K (t__law_half K Φ__law_plus Φ__law_less) (as ++ List.replicate (7 - as.length) .u) ms (fin R) := by
  rintro as ms R ⟨a, b, rfl, m, ts, rfl, rfl, hw, r⟩
  have gl := grQ_len ts m
  have all : ∀ k, ((ts.take k).filter fun _ => true) = ts.take k := fun k => by rw [List.filter_eq_self]; intro _ _; rfl
  have sW : ∀ k, Lo (sumF ((ts.take k).map wF)) ∧ val (sumF ((ts.take k).map wF)) = sumV ((ts.take k).map wF) ∧ Bd 8000 (sumF ((ts.take k).map wF)).1 ∧ Bd 2000 (sumF ((ts.take k).map wF)).2 := fun k => by
    have w := web_wts hw (fun _ => true) k
    rw [all] at w
    exact sum_ok w.1 w.2
  have sC : ∀ k, Lo (sumF (((ts.take k).filter (cB (grQ ts m))).map wF)) ∧ val (sumF (((ts.take k).filter (cB (grQ ts m))).map wF)) = sumV (((ts.take k).filter (cB (grQ ts m))).map wF) ∧ Bd 8000 (sumF (((ts.take k).filter (cB (grQ ts m))).map wF)).1 ∧ Bd 2000 (sumF (((ts.take k).filter (cB (grQ ts m))).map wF)).2 := fun k => by
    have w := web_wts hw (cB (grQ ts m)) k
    exact sum_ok w.1 w.2
  unfold t__law_half
  walk_at "evs"
  refine s_forT (js := [4, 5, 6]) ?_
  walk_at "evs"
  refine ⟨fun i ds' ms' => ∃ o5 o6 o7 : SD, ds' = [.d (encW m ts), .d (.tuple ((grQ ts m).map .int)), .d (pr (sumF ((ts.take i).map wF))), .d (pr (sumF (((ts.take i).filter (cB (grQ ts m))).map wF))), o5, o6, o7] ∧ ms' = ms, ⟨.u, .u, .u, rfl, rfl⟩, ?_, ?_⟩
  · rintro i e ds' ms' hi ⟨o5, o6, o7, rfl, rfl⟩
    rw [List.getElem?_map] at hi
    cases q : ts[i]? with
    | none => rw [q] at hi; cases hi
    | some t =>
      rw [q] at hi
      have e1 := (Option.some.inj hi).symm
      subst e1
      have ht := hw.all t (List.mem_of_getElem? q)
      have tl := ht.lt
      have tm := ht.lm
      have wt := ht.w
      have eW : sumF ((ts.take (i + 1)).map wF) = pl (sumF ((ts.take i).map wF)) t.2.2 := by
        rw [take_snoc q, List.map_append]
        exact foldl_snoc _ _
      refine eg_tup rfl (egs_cons (eg_name (egs_cons (eg_name (egs_cons (eg_name (egs_nil ?_)))))))
      walk_at "evs"
      refine ⟨_, _, rfl, _, _, rfl, rfl, (sW i).1.pos, wt.lo.pos, (sW i).2.2.1.mono (by decide), (sW i).2.2.2.mono (by decide), wt.b1.mono (by decide), wt.b2.mono (by decide), ?_⟩
      walk_at "evs"
      refine rr_ix ⟨_, _, _, .inr (.d _), rfl, atI_nat (bit_at (by omega)), ?_⟩
      walk_at "evs"
      refine rr_ix ⟨_, _, _, .inr (.d _), rfl, atI_nat (bit_at (by omega)), ?_⟩
      refine rr_ne ⟨_, _, .d _, .d _, shaped_int _, shaped_int _, ?_⟩
      rw [eqv_int]
      refine ⟨_, rfl, fun h => ?_, fun h => ?_⟩
      · have yes : cB (grQ ts m) t = true := h
        walk_at "evs"
        refine ⟨_, _, rfl, _, _, rfl, rfl, (sC i).1.pos, wt.lo.pos, (sC i).2.2.1.mono (by decide), (sC i).2.2.2.mono (by decide), wt.b1.mono (by decide), wt.b2.mono (by decide), ?_⟩
        refine ⟨.d (.int t.1), .d (.int t.2.1), .d (pr t.2.2), ?_, rfl⟩
        rw [eW, take_snoc q, List.filter_append, List.filter_cons, if_pos yes, List.map_append]
        show _ = [_, _, _, SD.d (pr (sumF (_ ++ [wF t]))), _, _, _]
        rw [foldl_snoc]
        rfl
      · have nob : cB (grQ ts m) t = false := h
        refine s_next ⟨.d (.int t.1), .d (.int t.2.1), .d (pr t.2.2), ?_, rfl⟩
        rw [eW, take_snoc q, List.filter_append, List.filter_cons, if_neg (by rw [nob]; decide)]
        simp
        rfl
  · rintro ds' ms' ⟨o5, o6, o7, rfl, rfl⟩
    rw [List.length_map]
    have c := sC ts.length
    have w := sW ts.length
    walk_at "evs"
    refine ⟨_, _, rfl, _, _, rfl, rfl, c.1.pos, c.1.pos, c.2.2.1.mono (by decide), c.2.2.2.mono (by decide), c.2.2.1.mono (by decide), c.2.2.2.mono (by decide), ?_⟩
    walk_at "evs"
    rw [List.take_length] at c w
    rw [List.take_length]
    generalize hcs : sumF ((ts.filter (cB (grQ ts m))).map wF) = cs at *
    generalize hws : sumF (ts.map wF) = ws at *
    have hp := c.1.pos
    have hne : cs.2 ≠ 0 := by omega
    have b1 : Bd 20000 (pl cs cs).1 := by
      have x1 := (c.2.2.1.mul c.2.2.2).add (c.2.2.1.mul c.2.2.2)
      exact (x1.le (fr_le (Int.mul_ne_zero hne hne)).1).mono (by decide)
    have b2 : Bd 20000 (pl cs cs).2 := ((c.2.2.2.mul c.2.2.2).le (fr_le (Int.mul_ne_zero hne hne)).2).mono (by decide)
    refine ⟨_, _, rfl, _, _, rfl, rfl, (pl_lo hne hne).pos, w.1.pos, b1, b2, w.2.2.1.mono (by decide), w.2.2.2.mono (by decide), ?_⟩
    have hh := half_web hw
    have e1 : cutW ts (grQ ts m) = val cs := by rw [c.2.1]; rfl
    rw [e1, ← w.2.1] at hh
    have : decide (val (pl cs cs) < val ws) = false := by
      rw [pl_val hne hne]
      refine decide_eq_false ?_
      grind
    rw [this]
    refine ⟨_, rfl, ?_⟩
    exact r

def Φ__law_right : Ph := ph1 fun a ms R => ∃ (m : Nat) (ts : List Tie), a = .d (encW m ts) ∧ WebOk m ts ∧ R (.d (.bool true)) ms
theorem len__law_right : ∀ as ms R, Φ__law_right as ms R → as.length = 1 := ph1_len
theorem int_bl (i : Int) : inst (.int i) "bool" = false := (by decide +kernel : inst (.int 0) "bool" = false)
theorem int_int (i : Int) : inst (.int i) "int" = true := (by decide +kernel : inst (.int 0) "int" = true)
theorem shp_intsT (ns : List Int) : Shp 1 (.tuple (ns.map .int)) := Shp.tup (Shp.ints ns)
theorem rd__law_right {K : PySem.W.Frag} : ∀ as ms R, Φ__law_right as ms R → S K (t__law_right K Φ_greedy Φ__law_half Φ__law_greedy) (as ++ List.replicate (3 - as.length) .u) ms (fin R) := by
  rintro as ms R ⟨a, rfl, m, ts, rfl, hw, r⟩
  unfold t__law_right
  walk_at "evs"
  refine ⟨_, rfl, m, ts, rfl, hw, ?_⟩
  rw [gr_same hw]
  walk_at "evs"
  rw [inst_tup]
  refine ⟨nofun, fun _ => ?_⟩
  walk_at "evs"
  refine ⟨_, rfl, m, ts, rfl, hw, ?_⟩
  refine rr_ne ⟨_, _, .d _, .d _, (shp_intsT _).ok (by decide), (shp_intsT _).ok (by decide), ?_⟩
  rw [eqv_self (shp_intsT _)]
  refine ⟨_, rfl, nofun, fun _ => ?_⟩
  walk_at "evs"
  refine ⟨_, _, rfl, m, ts, rfl, rfl, hw, ?_⟩
  refine ⟨_, rfl, nofun, fun _ => ?_⟩
  walk_at "evs"
  refine s_forT (js := [2]) (e_var rfl ?_)
  refine ⟨_, rfl, fun k ds' ms' => ∃ o : SD, ds' = [.d (encW m ts), .d (.tuple ((grQ ts m).map .int)), o] ∧ ms' = ms, ⟨.u, rfl, rfl⟩, ?_, ?_⟩
  · rintro k e ds' ms' hk ⟨o, rfl, rfl⟩
    obtain ⟨i, _, rfl⟩ := List.mem_map.mp (List.mem_of_getElem? hk)
    refine eg_name ?_
    walk_at "evs"
    rw [int_bl]
    refine ⟨nofun, fun _ => ?_⟩
    walk_at "evs"
    rw [int_int]
    refine ⟨nofun, fun _ => ?_⟩
    exact s_next ⟨_, rfl, rfl⟩
  · rintro ds' ms' ⟨o, rfl, rfl⟩
    walk_at "evs"
    refine ⟨_, rfl, m, ts, rfl, hw, ?_⟩
    rw [gr_same hw]
    walk_at "evs"
    refine rr_eq ⟨_, _, .d _, .d _, (shp_intsT _).ok (by decide), (shp_intsT _).ok (by decide), ?_⟩
    rw [eqv_self (shp_intsT _)]
    exact r

def Φ_law : Ph := ph1 fun a ms R => ∃ ns : List Int, a = .s ns ∧ ns.length ≤ 63 ∧ ms = [] ∧ R (.d (.bool true)) ms
theorem len_law : ∀ as ms R, Φ_law as ms R → as.length = 1 := ph1_len
theorem law_at {K : PySem.W.Frag} {H : Hp} {a : Addr} {ns : List Int} (hl : ns.length ≤ 63) (hO : Only H) (hS : SqL K H a (ns.map V.int)) : SpD K Φ_law [.ref a] H (fun v _ => v = .bl true) fun _ _ _ => False :=
  ⟨[], [], [], [.s ns], fun s _ => s = .d (.bool true), at_nil, ⟨.ref a, [], rfl, at_door hO hS, rfl⟩, ⟨_, rfl, ns, rfl, hl, rfl, rfl⟩, fun s v H' ms' w o e => by
    subst e
    obtain ⟨_, h⟩ := o
    cases h
    rfl⟩
theorem rd_law {K : PySem.W.Frag} : ∀ as ms R, Φ_law as ms R → S K (t_law K Φ__law_web Φ__law_stream Φ__law_cell_at Φ__law_right Φ__law_great_web) (as ++ List.replicate (3 - as.length) .u) ms (fin R) := by
  rintro as ms R ⟨a, rfl, ns, rfl, hns, rfl, r⟩
  unfold t_law
  refine s_seq ?_
  refine s_forR (js := [1]) ?_
  walk_at "evs"
  refine rc_len ⟨_, _, rfl, .inl (.s ns), ?_⟩
  walk_at "evs"
  refine ⟨?_, fun k ds' ms' => ∃ o1 o2 : SD, ds' = [.s ns, o1, o2] ∧ ms' = [], ⟨.u, .u, rfl, rfl⟩, ?_, ?_⟩
  · rw [List.length_map]
    constructor <;> split <;> split <;> omega
  · rintro k ds' ms' hk ⟨o1, o2, rfl, rfl⟩
    refine eg_name ?_
    refine s_seq (s_asg (e_callF ?_))
    walk_at "evs"
    refine ⟨_, _, rfl, ns, k, rfl, rfl, fun c => ?_⟩
    walk_at "evs"
    refine ⟨_, _, rfl, _, 40, rfl, rfl, by decide, fun xs => ?_⟩
    refine ⟨_, rfl, ?_⟩
    walk_at "evs"
    refine ⟨_, _, rfl, 0, xs, 9, rfl, rfl, rfl, by decide, by decide, fun m ts xs1 m9 hw hr hsm h81 => ?_⟩
    refine ⟨[], _, rfl, rfl, ?_⟩
    walk_at "evs"
    refine ⟨_, rfl, m, ts, rfl, hw, ?_⟩
    refine ⟨_, rfl, nofun, fun _ => ?_⟩
    exact s_next ⟨_, _, rfl, rfl⟩
  · rintro ds' ms' ⟨o1, o2, rfl, rfl⟩
    refine s_ret (e_call (ea_cons (e_callF ?_)))
    walk_at "evs"
    refine ⟨_, _, rfl, ns, 0, rfl, rfl, fun c => ?_⟩
    walk_at "evs"
    refine ⟨_, _, rfl, _, 176, rfl, rfl, by decide, fun xs => ?_⟩
    refine ⟨_, rfl, ?_⟩
    walk_at "evs"
    refine ⟨_, rfl, 0, xs, rfl, rfl, fun m ts xs1 hw hr hsm => ?_⟩
    refine ⟨[], _, rfl, rfl, ?_⟩
    refine ea_nil ⟨_, rfl, m, ts, rfl, hw, ?_⟩
    exact r

theorem ok_common_divisor {Pg : Program} {w : World} {K : PySem.W.Frag} {mg : Str → Option Value} {base : Heap} {f : Addr} {fd : FuncData} (F : Fun K "common_divisor" "common_divisor" s_common_divisor f fd) (hm : mg "common_divisor" = some (.ref f)) (B : ∀ x, x ∈ blt → mg x = none) : Kn Pg w K mg base "common_divisor" 1 ["one", "other"] Φ_common_divisor :=
  ⟨f, fd, ok_of F sc_common_divisor len_common_divisor (by decide) (fun cdv A outer s H E hr => ⟨_, dv_common_divisor hr B, rd_common_divisor⟩), hm, F.kp, F.binds fun _ _ _ _ _ _ us hl => match us, hl with | [_, _], _ => rfl⟩
theorem ok_common_bottom {Pg : Program} {w : World} {K : PySem.W.Frag} {mg : Str → Option Value} {base : Heap} {f : Addr} {fd : FuncData} (F : Fun K "common_bottom" "common_bottom" s_common_bottom f fd) (hm : mg "common_bottom" = some (.ref f)) (B : ∀ x, x ∈ blt → mg x = none) (g_common_divisor : Kn Pg w K mg base "common_divisor" 1 ["one", "other"] Φ_common_divisor) : Kn Pg w K mg base "common_bottom" 2 ["terms"] Φ_common_bottom :=
  ⟨f, fd, ok_of F sc_common_bottom len_common_bottom (by decide) (fun cdv A outer s H E hr => ⟨_, dv_common_bottom hr B g_common_divisor, rd_common_bottom⟩), hm, F.kp, F.binds fun _ _ _ _ _ _ us hl => match us, hl with | [_], _ => rfl⟩
theorem ok_whole_scale {Pg : Program} {w : World} {K : PySem.W.Frag} {mg : Str → Option Value} {base : Heap} {f : Addr} {fd : FuncData} (F : Fun K "whole_scale" "whole_scale" s_whole_scale f fd) (hm : mg "whole_scale" = some (.ref f)) (B : ∀ x, x ∈ blt → mg x = none) (g_common_bottom : Kn Pg w K mg base "common_bottom" 2 ["terms"] Φ_common_bottom) : Kn Pg w K mg base "whole_scale" 3 ["web"] Φ_whole_scale :=
  ⟨f, fd, ok_of F sc_whole_scale len_whole_scale (by decide) (fun cdv A outer s H E hr => ⟨_, dv_whole_scale hr B g_common_bottom, rd_whole_scale⟩), hm, F.kp, F.binds fun _ _ _ _ _ _ us hl => match us, hl with | [_], _ => rfl⟩
theorem ok_whole_weights {Pg : Program} {w : World} {K : PySem.W.Frag} {mg : Str → Option Value} {base : Heap} {f : Addr} {fd : FuncData} (F : Fun K "whole_weights" "whole_weights" s_whole_weights f fd) (hm : mg "whole_weights" = some (.ref f)) (B : ∀ x, x ∈ blt → mg x = none) (g_whole_scale : Kn Pg w K mg base "whole_scale" 3 ["web"] Φ_whole_scale) : Kn Pg w K mg base "whole_weights" 4 ["web"] Φ_whole_weights :=
  ⟨f, fd, ok_of F sc_whole_weights len_whole_weights (by decide) (fun cdv A outer s H E hr => ⟨_, dv_whole_weights hr B g_whole_scale, rd_whole_weights⟩), hm, F.kp, F.binds fun _ _ _ _ _ _ us hl => match us, hl with | [_], _ => rfl⟩
theorem ok_ties_at {Pg : Program} {w : World} {K : PySem.W.Frag} {mg : Str → Option Value} {base : Heap} {f : Addr} {fd : FuncData} (F : Fun K "ties_at" "ties_at" s_ties_at f fd) (hm : mg "ties_at" = some (.ref f)) (B : ∀ x, x ∈ blt → mg x = none) (g_whole_weights : Kn Pg w K mg base "whole_weights" 4 ["web"] Φ_whole_weights) : Kn Pg w K mg base "ties_at" 5 ["web"] Φ_ties_at :=
  ⟨f, fd, ok_of F sc_ties_at len_ties_at (by decide) (fun cdv A outer s H E hr => ⟨_, dv_ties_at hr B g_whole_weights, rd_ties_at⟩), hm, F.kp, F.binds fun _ _ _ _ _ _ us hl => match us, hl with | [_], _ => rfl⟩
theorem ok_greedy {Pg : Program} {w : World} {K : PySem.W.Frag} {mg : Str → Option Value} {base : Heap} {f : Addr} {fd : FuncData} (F : Fun K "greedy" "greedy" s_greedy f fd) (hm : mg "greedy" = some (.ref f)) (B : ∀ x, x ∈ blt → mg x = none) (g_ties_at : Kn Pg w K mg base "ties_at" 5 ["web"] Φ_ties_at) : Kn Pg w K mg base "greedy" 6 ["web"] Φ_greedy :=
  ⟨f, fd, ok_of F sc_greedy len_greedy (by decide) (fun cdv A outer s H E hr => ⟨_, dv_greedy hr B g_ties_at, rd_greedy⟩), hm, F.kp, F.binds fun _ _ _ _ _ _ us hl => match us, hl with | [_], _ => rfl⟩
theorem ok__law_cell_at {Pg : Program} {w : World} {K : PySem.W.Frag} {mg : Str → Option Value} {base : Heap} {f : Addr} {fd : FuncData} (F : Fun K "_law_cell_at" "_law_cell_at" s__law_cell_at f fd) (hm : mg "_law_cell_at" = some (.ref f)) (B : ∀ x, x ∈ blt → mg x = none) : Kn Pg w K mg base "_law_cell_at" 1 ["_law_script", "_law_k"] Φ__law_cell_at :=
  ⟨f, fd, ok_of F sc__law_cell_at len__law_cell_at (by decide) (fun cdv A outer s H E hr => ⟨_, dv__law_cell_at hr B, rd__law_cell_at⟩), hm, F.kp, F.binds fun _ _ _ _ _ _ us hl => match us, hl with | [_, _], _ => rfl⟩
theorem ok__law_stream {Pg : Program} {w : World} {K : PySem.W.Frag} {mg : Str → Option Value} {base : Heap} {f : Addr} {fd : FuncData} (F : Fun K "_law_stream" "_law_stream" s__law_stream f fd) (hm : mg "_law_stream" = some (.ref f)) (B : ∀ x, x ∈ blt → mg x = none) : Kn Pg w K mg base "_law_stream" 1 ["_law_cell", "_law_many"] Φ__law_stream :=
  ⟨f, fd, ok_of F sc__law_stream len__law_stream (by decide) (fun cdv A outer s H E hr => ⟨_, dv__law_stream hr B, rd__law_stream⟩), hm, F.kp, F.binds fun _ _ _ _ _ _ us hl => match us, hl with | [_, _], _ => rfl⟩
theorem ok__law_take {Pg : Program} {w : World} {K : PySem.W.Frag} {mg : Str → Option Value} {base : Heap} {f : Addr} {fd : FuncData} (F : Fun K "_law_take" "_law_take" s__law_take f fd) (hm : mg "_law_take" = some (.ref f)) (B : ∀ x, x ∈ blt → mg x = none) : Kn Pg w K mg base "_law_take" 1 ["_law_xs"] Φ__law_take :=
  ⟨f, fd, ok_of F sc__law_take len__law_take (by decide) (fun cdv A outer s H E hr => ⟨_, dv__law_take hr B, rd__law_take⟩), hm, F.kp, F.binds fun _ _ _ _ _ _ us hl => match us, hl with | [_], _ => rfl⟩
theorem ok__law_reduced {Pg : Program} {w : World} {K : PySem.W.Frag} {mg : Str → Option Value} {base : Heap} {f : Addr} {fd : FuncData} (F : Fun K "_law_reduced" "_law_reduced" s__law_reduced f fd) (hm : mg "_law_reduced" = some (.ref f)) (B : ∀ x, x ∈ blt → mg x = none) : Kn Pg w K mg base "_law_reduced" 1 ["_law_top", "_law_bottom"] Φ__law_reduced :=
  ⟨f, fd, ok_of F sc__law_reduced len__law_reduced (by decide) (fun cdv A outer s H E hr => ⟨_, dv__law_reduced hr B, rd__law_reduced⟩), hm, F.kp, F.binds fun _ _ _ _ _ _ us hl => match us, hl with | [_, _], _ => rfl⟩
theorem ok__law_weight {Pg : Program} {w : World} {K : PySem.W.Frag} {mg : Str → Option Value} {base : Heap} {f : Addr} {fd : FuncData} (F : Fun K "_law_weight" "_law_weight" s__law_weight f fd) (hm : mg "_law_weight" = some (.ref f)) (B : ∀ x, x ∈ blt → mg x = none) (g__law_reduced : Kn Pg w K mg base "_law_reduced" 1 ["_law_top", "_law_bottom"] Φ__law_reduced) : Kn Pg w K mg base "_law_weight" 2 ["_law_number"] Φ__law_weight :=
  ⟨f, fd, ok_of F sc__law_weight len__law_weight (by decide) (fun cdv A outer s H E hr => ⟨_, dv__law_weight hr B g__law_reduced, rd__law_weight⟩), hm, F.kp, F.binds fun _ _ _ _ _ _ us hl => match us, hl with | [_], _ => rfl⟩
theorem ok__law_web {Pg : Program} {w : World} {K : PySem.W.Frag} {mg : Str → Option Value} {base : Heap} {f : Addr} {fd : FuncData} (F : Fun K "_law_web" "_law_web" s__law_web f fd) (hm : mg "_law_web" = some (.ref f)) (B : ∀ x, x ∈ blt → mg x = none) (g__law_take : Kn Pg w K mg base "_law_take" 1 ["_law_xs"] Φ__law_take) (g__law_weight : Kn Pg w K mg base "_law_weight" 2 ["_law_number"] Φ__law_weight) : Kn Pg w K mg base "_law_web" 3 ["_law_xs", "_law_most"] Φ__law_web :=
  ⟨f, fd, ok_of F sc__law_web len__law_web (by decide) (fun cdv A outer s H E hr => ⟨_, dv__law_web hr B g__law_take g__law_weight, rd__law_web⟩), hm, F.kp, F.binds fun _ _ _ _ _ _ us hl => match us, hl with | [_, _], _ => rfl⟩
theorem ok__law_great_web {Pg : Program} {w : World} {K : PySem.W.Frag} {mg : Str → Option Value} {base : Heap} {f : Addr} {fd : FuncData} (F : Fun K "_law_great_web" "_law_great_web" s__law_great_web f fd) (hm : mg "_law_great_web" = some (.ref f)) (B : ∀ x, x ∈ blt → mg x = none) (g__law_take : Kn Pg w K mg base "_law_take" 1 ["_law_xs"] Φ__law_take) (g__law_weight : Kn Pg w K mg base "_law_weight" 2 ["_law_number"] Φ__law_weight) : Kn Pg w K mg base "_law_great_web" 3 ["_law_xs"] Φ__law_great_web :=
  ⟨f, fd, ok_of F sc__law_great_web len__law_great_web (by decide) (fun cdv A outer s H E hr => ⟨_, dv__law_great_web hr B g__law_take g__law_weight, rd__law_great_web⟩), hm, F.kp, F.binds fun _ _ _ _ _ _ us hl => match us, hl with | [_], _ => rfl⟩
theorem ok__law_plus {Pg : Program} {w : World} {K : PySem.W.Frag} {mg : Str → Option Value} {base : Heap} {f : Addr} {fd : FuncData} (F : Fun K "_law_plus" "_law_plus" s__law_plus f fd) (hm : mg "_law_plus" = some (.ref f)) (B : ∀ x, x ∈ blt → mg x = none) (g__law_reduced : Kn Pg w K mg base "_law_reduced" 1 ["_law_top", "_law_bottom"] Φ__law_reduced) : Kn Pg w K mg base "_law_plus" 2 ["_law_one", "_law_other"] Φ__law_plus :=
  ⟨f, fd, ok_of F sc__law_plus len__law_plus (by decide) (fun cdv A outer s H E hr => ⟨_, dv__law_plus hr B g__law_reduced, rd__law_plus⟩), hm, F.kp, F.binds fun _ _ _ _ _ _ us hl => match us, hl with | [_, _], _ => rfl⟩
theorem ok__law_less {Pg : Program} {w : World} {K : PySem.W.Frag} {mg : Str → Option Value} {base : Heap} {f : Addr} {fd : FuncData} (F : Fun K "_law_less" "_law_less" s__law_less f fd) (hm : mg "_law_less" = some (.ref f)) (B : ∀ x, x ∈ blt → mg x = none) : Kn Pg w K mg base "_law_less" 1 ["_law_one", "_law_other"] Φ__law_less :=
  ⟨f, fd, ok_of F sc__law_less len__law_less (by decide) (fun cdv A outer s H E hr => ⟨_, dv__law_less hr B, rd__law_less⟩), hm, F.kp, F.binds fun _ _ _ _ _ _ us hl => match us, hl with | [_, _], _ => rfl⟩
theorem ok__law_cut_behind {Pg : Program} {w : World} {K : PySem.W.Frag} {mg : Str → Option Value} {base : Heap} {f : Addr} {fd : FuncData} (F : Fun K "_law_cut_behind" "_law_cut_behind" s__law_cut_behind f fd) (hm : mg "_law_cut_behind" = some (.ref f)) (B : ∀ x, x ∈ blt → mg x = none) (g__law_plus : Kn Pg w K mg base "_law_plus" 2 ["_law_one", "_law_other"] Φ__law_plus) : Kn Pg w K mg base "_law_cut_behind" 3 ["_law_web_here", "_law_bits", "_law_point", "_law_bit"] Φ__law_cut_behind :=
  ⟨f, fd, ok_of F sc__law_cut_behind len__law_cut_behind (by decide) (fun cdv A outer s H E hr => ⟨_, dv__law_cut_behind hr B g__law_plus, rd__law_cut_behind⟩), hm, F.kp, F.binds fun _ _ _ _ _ _ us hl => match us, hl with | [_, _, _, _], _ => rfl⟩
theorem ok__law_greedy {Pg : Program} {w : World} {K : PySem.W.Frag} {mg : Str → Option Value} {base : Heap} {f : Addr} {fd : FuncData} (F : Fun K "_law_greedy" "_law_greedy" s__law_greedy f fd) (hm : mg "_law_greedy" = some (.ref f)) (B : ∀ x, x ∈ blt → mg x = none) (g__law_less : Kn Pg w K mg base "_law_less" 1 ["_law_one", "_law_other"] Φ__law_less) (g__law_cut_behind : Kn Pg w K mg base "_law_cut_behind" 3 ["_law_web_here", "_law_bits", "_law_point", "_law_bit"] Φ__law_cut_behind) : Kn Pg w K mg base "_law_greedy" 4 ["_law_web_here"] Φ__law_greedy :=
  ⟨f, fd, ok_of F sc__law_greedy len__law_greedy (by decide) (fun cdv A outer s H E hr => ⟨_, dv__law_greedy hr B g__law_less g__law_cut_behind, rd__law_greedy⟩), hm, F.kp, F.binds fun _ _ _ _ _ _ us hl => match us, hl with | [_], _ => rfl⟩
theorem ok__law_half {Pg : Program} {w : World} {K : PySem.W.Frag} {mg : Str → Option Value} {base : Heap} {f : Addr} {fd : FuncData} (F : Fun K "_law_half" "_law_half" s__law_half f fd) (hm : mg "_law_half" = some (.ref f)) (B : ∀ x, x ∈ blt → mg x = none) (g__law_plus : Kn Pg w K mg base "_law_plus" 2 ["_law_one", "_law_other"] Φ__law_plus) (g__law_less : Kn Pg w K mg base "_law_less" 1 ["_law_one", "_law_other"] Φ__law_less) : Kn Pg w K mg base "_law_half" 3 ["_law_web_here", "_law_bits"] Φ__law_half :=
  ⟨f, fd, ok_of F sc__law_half len__law_half (by decide) (fun cdv A outer s H E hr => ⟨_, dv__law_half hr B g__law_plus g__law_less, rd__law_half⟩), hm, F.kp, F.binds fun _ _ _ _ _ _ us hl => match us, hl with | [_, _], _ => rfl⟩
theorem ok__law_right {Pg : Program} {w : World} {K : PySem.W.Frag} {mg : Str → Option Value} {base : Heap} {f : Addr} {fd : FuncData} (F : Fun K "_law_right" "_law_right" s__law_right f fd) (hm : mg "_law_right" = some (.ref f)) (B : ∀ x, x ∈ blt → mg x = none) (g_greedy : Kn Pg w K mg base "greedy" 6 ["web"] Φ_greedy) (g__law_half : Kn Pg w K mg base "_law_half" 3 ["_law_web_here", "_law_bits"] Φ__law_half) (g__law_greedy : Kn Pg w K mg base "_law_greedy" 4 ["_law_web_here"] Φ__law_greedy) : Kn Pg w K mg base "_law_right" 7 ["_law_web_here"] Φ__law_right :=
  ⟨f, fd, ok_of F sc__law_right len__law_right (by decide) (fun cdv A outer s H E hr => ⟨_, dv__law_right hr B g_greedy g__law_half g__law_greedy, rd__law_right⟩), hm, F.kp, F.binds fun _ _ _ _ _ _ us hl => match us, hl with | [_], _ => rfl⟩
theorem all_mk {l : PySem.W.OpenLaw} {w : World} {K : PySem.W.Frag} {h : Heap} {mg : Str → Option Value} {fa f1 f2 f3 f4 f5 f6 f7 f8 f9 f10 f11 f12 f13 f14 f15 f16 f17 f18 f19 f20 : Addr} (X : K.In h) (G : h.Ns mainGlobals mg) (hfa : mg "law" = some (.ref fa))
    {od1 an1 od2 an2 od3 an3 od4 an4 od5 an5 od6 an6 od7 an7 od8 an8 od9 an9 od10 an10 od11 an11 od12 an12 od13 an13 od14 an14 od15 an15 od16 an16 od17 an17 od18 an18 od19 an19 od20 an20 : Option Addr} {sl1 sl2 sl3 sl4 sl5 sl6 sl7 sl8 sl9 sl10 sl11 sl12 sl13 sl14 sl15 sl16 sl17 sl18 sl19 sl20 : Array (Option Value)} {oc1 kV1 dc1 pm1 cd1 ct1 oc2 kV2 dc2 pm2 cd2 ct2 oc3 kV3 dc3 pm3 cd3 ct3 oc4 kV4 dc4 pm4 cd4 ct4 oc5 kV5 dc5 pm5 cd5 ct5 oc6 kV6 dc6 pm6 cd6 ct6 oc7 kV7 dc7 pm7 cd7 ct7 oc8 kV8 dc8 pm8 cd8 ct8 oc9 kV9 dc9 pm9 cd9 ct9 oc10 kV10 dc10 pm10 cd10 ct10 oc11 kV11 dc11 pm11 cd11 ct11 oc12 kV12 dc12 pm12 cd12 ct12 oc13 kV13 dc13 pm13 cd13 ct13 oc14 kV14 dc14 pm14 cd14 ct14 oc15 kV15 dc15 pm15 cd15 ct15 oc16 kV16 dc16 pm16 cd16 ct16 oc17 kV17 dc17 pm17 cd17 ct17 oc18 kV18 dc18 pm18 cd18 ct18 oc19 kV19 dc19 pm19 cd19 ct19 oc20 kV20 dc20 pm20 cd20 ct20 : Value}
    (a1 : PySem.W.nsIn K mainGlobals "common_divisor" = some (some (.ref f1))) (l1 : K.lookup f1 = some ⟨oc1, od1, .func (PySem.W.fnOf "common_divisor" "common_divisor" (defArgs s_common_divisor) (defBody s_common_divisor) (defScope s_common_divisor) .none kV1 dc1 pm1 an1 cd1 ct1), sl1⟩) (c1 : PySem.W.codeIn K cd1 "common_divisor" = true) (k1 : PySem.W.keepIn K (.ref f1) = true)
    (a2 : PySem.W.nsIn K mainGlobals "common_bottom" = some (some (.ref f2))) (l2 : K.lookup f2 = some ⟨oc2, od2, .func (PySem.W.fnOf "common_bottom" "common_bottom" (defArgs s_common_bottom) (defBody s_common_bottom) (defScope s_common_bottom) .none kV2 dc2 pm2 an2 cd2 ct2), sl2⟩) (c2 : PySem.W.codeIn K cd2 "common_bottom" = true) (k2 : PySem.W.keepIn K (.ref f2) = true)
    (a3 : PySem.W.nsIn K mainGlobals "whole_scale" = some (some (.ref f3))) (l3 : K.lookup f3 = some ⟨oc3, od3, .func (PySem.W.fnOf "whole_scale" "whole_scale" (defArgs s_whole_scale) (defBody s_whole_scale) (defScope s_whole_scale) .none kV3 dc3 pm3 an3 cd3 ct3), sl3⟩) (c3 : PySem.W.codeIn K cd3 "whole_scale" = true) (k3 : PySem.W.keepIn K (.ref f3) = true)
    (a4 : PySem.W.nsIn K mainGlobals "whole_weights" = some (some (.ref f4))) (l4 : K.lookup f4 = some ⟨oc4, od4, .func (PySem.W.fnOf "whole_weights" "whole_weights" (defArgs s_whole_weights) (defBody s_whole_weights) (defScope s_whole_weights) .none kV4 dc4 pm4 an4 cd4 ct4), sl4⟩) (c4 : PySem.W.codeIn K cd4 "whole_weights" = true) (k4 : PySem.W.keepIn K (.ref f4) = true)
    (a5 : PySem.W.nsIn K mainGlobals "ties_at" = some (some (.ref f5))) (l5 : K.lookup f5 = some ⟨oc5, od5, .func (PySem.W.fnOf "ties_at" "ties_at" (defArgs s_ties_at) (defBody s_ties_at) (defScope s_ties_at) .none kV5 dc5 pm5 an5 cd5 ct5), sl5⟩) (c5 : PySem.W.codeIn K cd5 "ties_at" = true) (k5 : PySem.W.keepIn K (.ref f5) = true)
    (a6 : PySem.W.nsIn K mainGlobals "greedy" = some (some (.ref f6))) (l6 : K.lookup f6 = some ⟨oc6, od6, .func (PySem.W.fnOf "greedy" "greedy" (defArgs s_greedy) (defBody s_greedy) (defScope s_greedy) .none kV6 dc6 pm6 an6 cd6 ct6), sl6⟩) (c6 : PySem.W.codeIn K cd6 "greedy" = true) (k6 : PySem.W.keepIn K (.ref f6) = true)
    (a7 : PySem.W.nsIn K mainGlobals "_law_cell_at" = some (some (.ref f7))) (l7 : K.lookup f7 = some ⟨oc7, od7, .func (PySem.W.fnOf "_law_cell_at" "_law_cell_at" (defArgs s__law_cell_at) (defBody s__law_cell_at) (defScope s__law_cell_at) .none kV7 dc7 pm7 an7 cd7 ct7), sl7⟩) (c7 : PySem.W.codeIn K cd7 "_law_cell_at" = true) (k7 : PySem.W.keepIn K (.ref f7) = true)
    (a8 : PySem.W.nsIn K mainGlobals "_law_stream" = some (some (.ref f8))) (l8 : K.lookup f8 = some ⟨oc8, od8, .func (PySem.W.fnOf "_law_stream" "_law_stream" (defArgs s__law_stream) (defBody s__law_stream) (defScope s__law_stream) .none kV8 dc8 pm8 an8 cd8 ct8), sl8⟩) (c8 : PySem.W.codeIn K cd8 "_law_stream" = true) (k8 : PySem.W.keepIn K (.ref f8) = true)
    (a9 : PySem.W.nsIn K mainGlobals "_law_take" = some (some (.ref f9))) (l9 : K.lookup f9 = some ⟨oc9, od9, .func (PySem.W.fnOf "_law_take" "_law_take" (defArgs s__law_take) (defBody s__law_take) (defScope s__law_take) .none kV9 dc9 pm9 an9 cd9 ct9), sl9⟩) (c9 : PySem.W.codeIn K cd9 "_law_take" = true) (k9 : PySem.W.keepIn K (.ref f9) = true)
    (a10 : PySem.W.nsIn K mainGlobals "_law_reduced" = some (some (.ref f10))) (l10 : K.lookup f10 = some ⟨oc10, od10, .func (PySem.W.fnOf "_law_reduced" "_law_reduced" (defArgs s__law_reduced) (defBody s__law_reduced) (defScope s__law_reduced) .none kV10 dc10 pm10 an10 cd10 ct10), sl10⟩) (c10 : PySem.W.codeIn K cd10 "_law_reduced" = true) (k10 : PySem.W.keepIn K (.ref f10) = true)
    (a11 : PySem.W.nsIn K mainGlobals "_law_weight" = some (some (.ref f11))) (l11 : K.lookup f11 = some ⟨oc11, od11, .func (PySem.W.fnOf "_law_weight" "_law_weight" (defArgs s__law_weight) (defBody s__law_weight) (defScope s__law_weight) .none kV11 dc11 pm11 an11 cd11 ct11), sl11⟩) (c11 : PySem.W.codeIn K cd11 "_law_weight" = true) (k11 : PySem.W.keepIn K (.ref f11) = true)
    (a12 : PySem.W.nsIn K mainGlobals "_law_web" = some (some (.ref f12))) (l12 : K.lookup f12 = some ⟨oc12, od12, .func (PySem.W.fnOf "_law_web" "_law_web" (defArgs s__law_web) (defBody s__law_web) (defScope s__law_web) .none kV12 dc12 pm12 an12 cd12 ct12), sl12⟩) (c12 : PySem.W.codeIn K cd12 "_law_web" = true) (k12 : PySem.W.keepIn K (.ref f12) = true)
    (a13 : PySem.W.nsIn K mainGlobals "_law_great_web" = some (some (.ref f13))) (l13 : K.lookup f13 = some ⟨oc13, od13, .func (PySem.W.fnOf "_law_great_web" "_law_great_web" (defArgs s__law_great_web) (defBody s__law_great_web) (defScope s__law_great_web) .none kV13 dc13 pm13 an13 cd13 ct13), sl13⟩) (c13 : PySem.W.codeIn K cd13 "_law_great_web" = true) (k13 : PySem.W.keepIn K (.ref f13) = true)
    (a14 : PySem.W.nsIn K mainGlobals "_law_plus" = some (some (.ref f14))) (l14 : K.lookup f14 = some ⟨oc14, od14, .func (PySem.W.fnOf "_law_plus" "_law_plus" (defArgs s__law_plus) (defBody s__law_plus) (defScope s__law_plus) .none kV14 dc14 pm14 an14 cd14 ct14), sl14⟩) (c14 : PySem.W.codeIn K cd14 "_law_plus" = true) (k14 : PySem.W.keepIn K (.ref f14) = true)
    (a15 : PySem.W.nsIn K mainGlobals "_law_less" = some (some (.ref f15))) (l15 : K.lookup f15 = some ⟨oc15, od15, .func (PySem.W.fnOf "_law_less" "_law_less" (defArgs s__law_less) (defBody s__law_less) (defScope s__law_less) .none kV15 dc15 pm15 an15 cd15 ct15), sl15⟩) (c15 : PySem.W.codeIn K cd15 "_law_less" = true) (k15 : PySem.W.keepIn K (.ref f15) = true)
    (a16 : PySem.W.nsIn K mainGlobals "_law_cut_behind" = some (some (.ref f16))) (l16 : K.lookup f16 = some ⟨oc16, od16, .func (PySem.W.fnOf "_law_cut_behind" "_law_cut_behind" (defArgs s__law_cut_behind) (defBody s__law_cut_behind) (defScope s__law_cut_behind) .none kV16 dc16 pm16 an16 cd16 ct16), sl16⟩) (c16 : PySem.W.codeIn K cd16 "_law_cut_behind" = true) (k16 : PySem.W.keepIn K (.ref f16) = true)
    (a17 : PySem.W.nsIn K mainGlobals "_law_greedy" = some (some (.ref f17))) (l17 : K.lookup f17 = some ⟨oc17, od17, .func (PySem.W.fnOf "_law_greedy" "_law_greedy" (defArgs s__law_greedy) (defBody s__law_greedy) (defScope s__law_greedy) .none kV17 dc17 pm17 an17 cd17 ct17), sl17⟩) (c17 : PySem.W.codeIn K cd17 "_law_greedy" = true) (k17 : PySem.W.keepIn K (.ref f17) = true)
    (a18 : PySem.W.nsIn K mainGlobals "_law_half" = some (some (.ref f18))) (l18 : K.lookup f18 = some ⟨oc18, od18, .func (PySem.W.fnOf "_law_half" "_law_half" (defArgs s__law_half) (defBody s__law_half) (defScope s__law_half) .none kV18 dc18 pm18 an18 cd18 ct18), sl18⟩) (c18 : PySem.W.codeIn K cd18 "_law_half" = true) (k18 : PySem.W.keepIn K (.ref f18) = true)
    (a19 : PySem.W.nsIn K mainGlobals "_law_right" = some (some (.ref f19))) (l19 : K.lookup f19 = some ⟨oc19, od19, .func (PySem.W.fnOf "_law_right" "_law_right" (defArgs s__law_right) (defBody s__law_right) (defScope s__law_right) .none kV19 dc19 pm19 an19 cd19 ct19), sl19⟩) (c19 : PySem.W.codeIn K cd19 "_law_right" = true) (k19 : PySem.W.keepIn K (.ref f19) = true)
    (a20 : PySem.W.nsIn K mainGlobals "law" = some (some (.ref f20))) (l20 : K.lookup f20 = some ⟨oc20, od20, .func (PySem.W.fnOf "law" "law" (defArgs s_law) (defBody s_law) (defScope s_law) .none kV20 dc20 pm20 an20 cd20 ct20), sl20⟩) (c20 : PySem.W.codeIn K cd20 "law" = true) (k20 : PySem.W.keepIn K (.ref f20) = true)
    (z0 : PySem.W.nsIn K mainGlobals "abs" = some none) (z1 : PySem.W.nsIn K mainGlobals "range" = some none) (z2 : PySem.W.nsIn K mainGlobals "zip" = some none) (z3 : PySem.W.nsIn K mainGlobals "sum" = some none) (z4 : PySem.W.nsIn K mainGlobals "tuple" = some none) (z5 : PySem.W.nsIn K mainGlobals "len" = some none) (z6 : PySem.W.nsIn K mainGlobals "isinstance" = some none) (z7 : PySem.W.nsIn K mainGlobals "int" = some none) (z8 : PySem.W.nsIn K mainGlobals "bool" = some none) (z9 : PySem.W.nsIn K mainGlobals "min" = some none) (z10 : PySem.W.nsIn K mainGlobals "max" = some none) :
    ∃ fd : FuncData, (∀ (s : Shared) (v : Value), BindsTo s fd ⟨[v], []⟩ [("_law_script", v)]) ∧ ∀ base : Heap, K.In base → base.Ns mainGlobals mg → FnOk l.prog w K mg base CX0 8 fa fd ["_law_script"] (SpD K Φ_law) := by
  have B : ∀ x, x ∈ blt → mg x = none := by
    intro x hx
    simp only [blt, List.mem_cons, List.not_mem_nil, or_false] at hx
    rcases hx with rfl | rfl | rfl | rfl | rfl | rfl | rfl | rfl | rfl | rfl | rfl
    · exact PySem.W.mg_none_of X G z0
    · exact PySem.W.mg_none_of X G z1
    · exact PySem.W.mg_none_of X G z2
    · exact PySem.W.mg_none_of X G z3
    · exact PySem.W.mg_none_of X G z4
    · exact PySem.W.mg_none_of X G z5
    · exact PySem.W.mg_none_of X G z6
    · exact PySem.W.mg_none_of X G z7
    · exact PySem.W.mg_none_of X G z8
    · exact PySem.W.mg_none_of X G z9
    · exact PySem.W.mg_none_of X G z10
  have e := hfa.symm.trans (PySem.W.mg_of X G a20)
  cases e
  have F1 := fun_mk (st := s_common_divisor) l1 c1 k1
  have F2 := fun_mk (st := s_common_bottom) l2 c2 k2
  have F3 := fun_mk (st := s_whole_scale) l3 c3 k3
  have F4 := fun_mk (st := s_whole_weights) l4 c4 k4
  have F5 := fun_mk (st := s_ties_at) l5 c5 k5
  have F6 := fun_mk (st := s_greedy) l6 c6 k6
  have F7 := fun_mk (st := s__law_cell_at) l7 c7 k7
  have F8 := fun_mk (st := s__law_stream) l8 c8 k8
  have F9 := fun_mk (st := s__law_take) l9 c9 k9
  have F10 := fun_mk (st := s__law_reduced) l10 c10 k10
  have F11 := fun_mk (st := s__law_weight) l11 c11 k11
  have F12 := fun_mk (st := s__law_web) l12 c12 k12
  have F13 := fun_mk (st := s__law_great_web) l13 c13 k13
  have F14 := fun_mk (st := s__law_plus) l14 c14 k14
  have F15 := fun_mk (st := s__law_less) l15 c15 k15
  have F16 := fun_mk (st := s__law_cut_behind) l16 c16 k16
  have F17 := fun_mk (st := s__law_greedy) l17 c17 k17
  have F18 := fun_mk (st := s__law_half) l18 c18 k18
  have F19 := fun_mk (st := s__law_right) l19 c19 k19
  have F20 := fun_mk (st := s_law) l20 c20 k20
  have g_common_divisor : ∀ base : Heap, Kn l.prog w K mg base "common_divisor" 1 ["one", "other"] Φ_common_divisor := fun base => ok_common_divisor F1 (PySem.W.mg_of X G a1) B
  have g_common_bottom : ∀ base : Heap, Kn l.prog w K mg base "common_bottom" 2 ["terms"] Φ_common_bottom := fun base => ok_common_bottom F2 (PySem.W.mg_of X G a2) B (g_common_divisor base)
  have g_whole_scale : ∀ base : Heap, Kn l.prog w K mg base "whole_scale" 3 ["web"] Φ_whole_scale := fun base => ok_whole_scale F3 (PySem.W.mg_of X G a3) B (g_common_bottom base)
  have g_whole_weights : ∀ base : Heap, Kn l.prog w K mg base "whole_weights" 4 ["web"] Φ_whole_weights := fun base => ok_whole_weights F4 (PySem.W.mg_of X G a4) B (g_whole_scale base)
  have g_ties_at : ∀ base : Heap, Kn l.prog w K mg base "ties_at" 5 ["web"] Φ_ties_at := fun base => ok_ties_at F5 (PySem.W.mg_of X G a5) B (g_whole_weights base)
  have g_greedy : ∀ base : Heap, Kn l.prog w K mg base "greedy" 6 ["web"] Φ_greedy := fun base => ok_greedy F6 (PySem.W.mg_of X G a6) B (g_ties_at base)
  have g__law_cell_at : ∀ base : Heap, Kn l.prog w K mg base "_law_cell_at" 1 ["_law_script", "_law_k"] Φ__law_cell_at := fun base => ok__law_cell_at F7 (PySem.W.mg_of X G a7) B
  have g__law_stream : ∀ base : Heap, Kn l.prog w K mg base "_law_stream" 1 ["_law_cell", "_law_many"] Φ__law_stream := fun base => ok__law_stream F8 (PySem.W.mg_of X G a8) B
  have g__law_take : ∀ base : Heap, Kn l.prog w K mg base "_law_take" 1 ["_law_xs"] Φ__law_take := fun base => ok__law_take F9 (PySem.W.mg_of X G a9) B
  have g__law_reduced : ∀ base : Heap, Kn l.prog w K mg base "_law_reduced" 1 ["_law_top", "_law_bottom"] Φ__law_reduced := fun base => ok__law_reduced F10 (PySem.W.mg_of X G a10) B
  have g__law_weight : ∀ base : Heap, Kn l.prog w K mg base "_law_weight" 2 ["_law_number"] Φ__law_weight := fun base => ok__law_weight F11 (PySem.W.mg_of X G a11) B (g__law_reduced base)
  have g__law_web : ∀ base : Heap, Kn l.prog w K mg base "_law_web" 3 ["_law_xs", "_law_most"] Φ__law_web := fun base => ok__law_web F12 (PySem.W.mg_of X G a12) B (g__law_take base) (g__law_weight base)
  have g__law_great_web : ∀ base : Heap, Kn l.prog w K mg base "_law_great_web" 3 ["_law_xs"] Φ__law_great_web := fun base => ok__law_great_web F13 (PySem.W.mg_of X G a13) B (g__law_take base) (g__law_weight base)
  have g__law_plus : ∀ base : Heap, Kn l.prog w K mg base "_law_plus" 2 ["_law_one", "_law_other"] Φ__law_plus := fun base => ok__law_plus F14 (PySem.W.mg_of X G a14) B (g__law_reduced base)
  have g__law_less : ∀ base : Heap, Kn l.prog w K mg base "_law_less" 1 ["_law_one", "_law_other"] Φ__law_less := fun base => ok__law_less F15 (PySem.W.mg_of X G a15) B
  have g__law_cut_behind : ∀ base : Heap, Kn l.prog w K mg base "_law_cut_behind" 3 ["_law_web_here", "_law_bits", "_law_point", "_law_bit"] Φ__law_cut_behind := fun base => ok__law_cut_behind F16 (PySem.W.mg_of X G a16) B (g__law_plus base)
  have g__law_greedy : ∀ base : Heap, Kn l.prog w K mg base "_law_greedy" 4 ["_law_web_here"] Φ__law_greedy := fun base => ok__law_greedy F17 (PySem.W.mg_of X G a17) B (g__law_less base) (g__law_cut_behind base)
  have g__law_half : ∀ base : Heap, Kn l.prog w K mg base "_law_half" 3 ["_law_web_here", "_law_bits"] Φ__law_half := fun base => ok__law_half F18 (PySem.W.mg_of X G a18) B (g__law_plus base) (g__law_less base)
  have g__law_right : ∀ base : Heap, Kn l.prog w K mg base "_law_right" 7 ["_law_web_here"] Φ__law_right := fun base => ok__law_right F19 (PySem.W.mg_of X G a19) B (g_greedy base) (g__law_half base) (g__law_greedy base)
  exact ⟨PySem.W.fnOf "law" "law" (defArgs s_law) (defBody s_law) (defScope s_law) .none kV20 dc20 pm20 an20 cd20 ct20, fun s v => .of_eq rfl, fun base _ _ => ok_of F20 sc_law len_law (by decide) (fun cdv A outer s H E hr => ⟨_, dv_law hr B (g__law_web base) (g__law_stream base) (g__law_cell_at base) (g__law_right base) (g__law_great_web base), rd_law⟩)⟩
end K31
open PySem PySem.W PyProof.Rows
set_option maxRecDepth 100000 in
set_option maxHeartbeats 0 in
theorem PySem.Challenge.cw_heavycut_k31_greedy_holds : PySem.Challenge.rw_heavycut_k31_greedy.Holds := by
  w_on; o_law; k_head; (case hw => w_witness2)
  k_fill
  refine L2.walk_of (l := PySem.Challenge.rw_heavycut_k31_greedy) (n := 63) (k := 8) (x := "_law_script") (CX := fun _ => L2.CX0) (sp := fun w => Hc.SpD _ K31.Φ_law) rfl (by decide) rfl ⟨rfl, by decide, by decide⟩ (fun w h Y => PySem.W.kIn_of Y) ?F (fun _ _ a ns hl hO hS => K31.law_at hl hO hS) (fun _ _ _ _ _ h => h)
  case F =>
    intro w mg fa h KX G hmg
    refine' K31.all_mk KX G hmg ?a1 ?l1 ?c1 ?k1 ?a2 ?l2 ?c2 ?k2 ?a3 ?l3 ?c3 ?k3 ?a4 ?l4 ?c4 ?k4 ?a5 ?l5 ?c5 ?k5 ?a6 ?l6 ?c6 ?k6 ?a7 ?l7 ?c7 ?k7 ?a8 ?l8 ?c8 ?k8 ?a9 ?l9 ?c9 ?k9 ?a10 ?l10 ?c10 ?k10 ?a11 ?l11 ?c11 ?k11 ?a12 ?l12 ?c12 ?k12 ?a13 ?l13 ?c13 ?k13 ?a14 ?l14 ?c14 ?k14 ?a15 ?l15 ?c15 ?k15 ?a16 ?l16 ?c16 ?k16 ?a17 ?l17 ?c17 ?k17 ?a18 ?l18 ?c18 ?k18 ?a19 ?l19 ?c19 ?k19 ?a20 ?l20 ?c20 ?k20 ?z0 ?z1 ?z2 ?z3 ?z4 ?z5 ?z6 ?z7 ?z8 ?z9 ?z10
    (case a1 => k_is); (case l1 => k_is); (case c1 => k_is); (case k1 => k_is); (case a2 => k_is); (case l2 => k_is); (case c2 => k_is); (case k2 => k_is); (case a3 => k_is); (case l3 => k_is); (case c3 => k_is); (case k3 => k_is); (case a4 => k_is); (case l4 => k_is); (case c4 => k_is); (case k4 => k_is); (case a5 => k_is); (case l5 => k_is); (case c5 => k_is); (case k5 => k_is); (case a6 => k_is); (case l6 => k_is); (case c6 => k_is); (case k6 => k_is); (case a7 => k_is); (case l7 => k_is); (case c7 => k_is); (case k7 => k_is); (case a8 => k_is); (case l8 => k_is); (case c8 => k_is); (case k8 => k_is); (case a9 => k_is); (case l9 => k_is); (case c9 => k_is); (case k9 => k_is); (case a10 => k_is); (case l10 => k_is); (case c10 => k_is); (case k10 => k_is); (case a11 => k_is); (case l11 => k_is); (case c11 => k_is); (case k11 => k_is); (case a12 => k_is); (case l12 => k_is); (case c12 => k_is); (case k12 => k_is); (case a13 => k_is); (case l13 => k_is); (case c13 => k_is); (case k13 => k_is); (case a14 => k_is); (case l14 => k_is); (case c14 => k_is); (case k14 => k_is); (case a15 => k_is); (case l15 => k_is); (case c15 => k_is); (case k15 => k_is); (case a16 => k_is); (case l16 => k_is); (case c16 => k_is); (case k16 => k_is); (case a17 => k_is); (case l17 => k_is); (case c17 => k_is); (case k17 => k_is); (case a18 => k_is); (case l18 => k_is); (case c18 => k_is); (case k18 => k_is); (case a19 => k_is); (case l19 => k_is); (case c19 => k_is); (case k19 => k_is); (case a20 => k_is); (case l20 => k_is); (case c20 => k_is); (case k20 => k_is); (case z0 => k_is); (case z1 => k_is); (case z2 => k_is); (case z3 => k_is); (case z4 => k_is); (case z5 => k_is); (case z6 => k_is); (case z7 => k_is); (case z8 => k_is); (case z9 => k_is); (case z10 => k_is)
#print axioms PySem.Challenge.cw_heavycut_k31_greedy_holds
