import PyProof.Rows.All
import Wide.All
import OpenK.AllK
import Wide.FinOn
import HandS.ForMost
import HandS.Walk
import HandS.Lambda
import KE.GoesEnum
import HandS.TupAny
import HandS.TupLe
import HandS.TupMul
import HandS.SortInts
import HandS.Deep
import HandS.Conv
import HandS.More
import PyProof.ReprLen
import HandS.Dict
import HandS.SetFor
import HandS.Strs
import KE.GoesSet
import HandS.TupSets
import HandS.Ends
import HandS.Comp
import HandS.CallLocal
import PyProof.P3In
import HandS.DictComp
import HandS.IsInst
import HandS.Text
import HandS.Exc
import KE.DataMinMax
import HandS.Iter
import HandS.ForExc
import HandS.ExcInit
import HandS.ExcField
import KE.KExcIs
import HandS.TryMany
import HandS.Style
import HandS.Zip
import HandS.Gcd
import PyProof.EqAt
import HandS.AnyAll
import HandS.EndTab
import KE.KNest
import HandS.HotCalls
import PySem.Challenge.RW_saidbetween_k03_whole_questions_of_table
set_option Elab.async false
set_option linter.all false
set_option maxRecDepth 100000
set_option maxHeartbeats 4100000
namespace DL
open L2 PySem PySem.Spec PyProof.Rows

/-! ## data, and how a value bears it: list and dict nodes stand outside O (what may still change) -/
def keyD : Key → PyData
  | .inl i => .int i
  | .inr x => .str x
def keyTD (ks : List Key) : PyData := .tuple (ks.map keyD)
/-- texts alone: tuples written in the module are of these -/
def strsD : List PyData → Bool
  | [] => false
  | [.str _] => true
  | .str _ :: ds => strsD ds
  | _ => false
mutual
inductive Do (K : PySem.W.Frag) (H : Hp) (O : Addr → Prop) : V → PyData → Prop
  | non : Do K H O .non .none
  | bl (b : Bool) : Do K H O (.bl b) (.bool b)
  | int (i : Int) : Do K H O (.int i) (.int i)
  | str (x : Str) : Do K H O (.str x) (.str x)
  | lst {a : Addr} {xs : List V} {ds : List PyData} : H a = some (.lst xs) → ¬ O a → DoAll K H O xs ds → Do K H O (.ref a) (.list ds)
  | tup {a : Addr} {xs : List V} {ds : List PyData} : SqT K H a xs → (H a = some (.tup xs) ∨ strsD ds = true) → DoAll K H O xs ds → Do K H O (.ref a) (.tuple ds)
  | dcK {a : Addr} {kvs : List (Key × V)} {es : List (Key × PyData)} {ds : List (PyData × PyData)} : ds = es.map (fun p => (keyD p.1, p.2)) → H a = some (.dK kvs) → ¬ O a → kvs.map Prod.fst = es.map Prod.fst → DoAll K H O (kvs.map Prod.snd) (es.map Prod.snd) → Do K H O (.ref a) (.dict ds)
  | dcT {a : Addr} {kvs : List (List Key × V)} {es : List (List Key × PyData)} {ds : List (PyData × PyData)} : ds = es.map (fun p => (keyTD p.1, p.2)) → H a = some (.dT kvs) → ¬ O a → kvs.map Prod.fst = es.map Prod.fst → DoAll K H O (kvs.map Prod.snd) (es.map Prod.snd) → Do K H O (.ref a) (.dict ds)
inductive DoAll (K : PySem.W.Frag) (H : Hp) (O : Addr → Prop) : List V → List PyData → Prop
  | nil : DoAll K H O [] []
  | cons {v : V} {vs : List V} {d : PyData} {ds : List PyData} : Do K H O v d → DoAll K H O vs ds → DoAll K H O (v :: vs) (d :: ds)
end

/-- what is kept from a heap to a later one: all that was there but M, and what never changes -/
structure Keep (M : Addr → Prop) (H H' : Hp) : Prop where
  same : ∀ b o, H b = some o → ¬ M b → H' b = some o
  tup : ∀ b xs, H b = some (.tup xs) → H' b = some (.tup xs)
  frz : ∀ b o u, H b = some (.frz o u) → H' b = some (.frz o u)
  ext : ∀ b e, H b = some (.ext e) → H' b = some (.ext e)

section
variable {K : PySem.W.Frag} {M M' O O' : Addr → Prop} {H H' H2 : Hp}
theorem Keep.refl : Keep M H H := ⟨fun _ _ e _ => e, fun _ _ e => e, fun _ _ _ e => e, fun _ _ e => e⟩
theorem Keep.trans (a : Keep M H H') (b : Keep M H' H2) : Keep M H H2 :=
  ⟨fun c o e n => b.same c o (a.same c o e n) n, fun c xs e => b.tup c xs (a.tup c xs e), fun c o u e => b.frz c o u (a.frz c o u e), fun c u e => b.ext c u (a.ext c u e)⟩
theorem Keep.mono (a : Keep M H H') (h : ∀ b, M b → M' b) : Keep M' H H' := ⟨fun b o e n => a.same b o e fun z => n (h b z), a.tup, a.frz, a.ext⟩
theorem Keep.of_same (s : Same H H') : Keep M H H' := ⟨fun b o e _ => s b o e, fun b _ e => s b _ e, fun b _ _ e => s b _ e, fun b _ e => s b _ e⟩
theorem Keep.new {p : Addr} {o : HO} (h : H p = none) : Keep M H (upd H p o) := .of_same fun b x e => by
  rw [upd_ne (ne_of_none e h)]; exact e
theorem Keep.sqT {a : Addr} {xs : List V} (k : Keep M H H') (h : SqT K H a xs) : SqT K H' a xs := by
  rcases h with (h | ⟨o, h⟩) | h
  · exact .inl (.inl (k.tup _ _ h))
  · exact .inl (.inr ⟨o, k.frz _ _ _ h⟩)
  · exact .inr h
mutual
theorem Do.keep (k : Keep M H H') (hm : ∀ b, M b → O b) : ∀ {v : V} {d : PyData}, Do K H O v d → Do K H' O v d
  | _, _, .non => .non
  | _, _, .bl b => .bl b
  | _, _, .int i => .int i
  | _, _, .str x => .str x
  | _, _, .lst h n a => .lst (k.same _ _ h fun z => n (hm _ z)) n (DoAll.keep k hm a)
  | _, _, .tup h z a => .tup (k.sqT h) (z.imp (k.tup _ _) id) (DoAll.keep k hm a)
  | _, _, .dcK z h n e a => .dcK z (k.same _ _ h fun z => n (hm _ z)) n e (DoAll.keep k hm a)
  | _, _, .dcT z h n e a => .dcT z (k.same _ _ h fun z => n (hm _ z)) n e (DoAll.keep k hm a)
theorem DoAll.keep (k : Keep M H H') (hm : ∀ b, M b → O b) : ∀ {vs : List V} {ds : List PyData}, DoAll K H O vs ds → DoAll K H' O vs ds
  | _, _, .nil => .nil
  | _, _, .cons h t => .cons (Do.keep k hm h) (DoAll.keep k hm t)
end
mutual
theorem Do.weak (h : ∀ b, O' b → O b) : ∀ {v : V} {d : PyData}, Do K H O v d → Do K H O' v d
  | _, _, .non => .non
  | _, _, .bl b => .bl b
  | _, _, .int i => .int i
  | _, _, .str x => .str x
  | _, _, .lst r n a => .lst r (fun z => n (h _ z)) (DoAll.weak h a)
  | _, _, .tup r z a => .tup r z (DoAll.weak h a)
  | _, _, .dcK z r n e a => .dcK z r (fun z => n (h _ z)) e (DoAll.weak h a)
  | _, _, .dcT z r n e a => .dcT z r (fun z => n (h _ z)) e (DoAll.weak h a)
theorem DoAll.weak (h : ∀ b, O' b → O b) : ∀ {vs : List V} {ds : List PyData}, DoAll K H O vs ds → DoAll K H O' vs ds
  | _, _, .nil => .nil
  | _, _, .cons r t => .cons (Do.weak h r) (DoAll.weak h t)
end
/-! one more that may change, at an address that is not in the heap -/
mutual
theorem Do.grow {p : Addr} (hp : H p = none) : ∀ {v : V} {d : PyData}, Do K H O v d → Do K H (fun b => O b ∨ b = p) v d
  | _, _, .non => .non
  | _, _, .bl b => .bl b
  | _, _, .int i => .int i
  | _, _, .str x => .str x
  | _, _, .lst r n a => .lst r (fun z => z.elim n fun e => by
      subst e
      rw [hp] at r; cases r) (DoAll.grow hp a)
  | _, _, .tup r z a => .tup r z (DoAll.grow hp a)
  | _, _, .dcK z r n e a => .dcK z r (fun z => z.elim n fun e => by
      subst e
      rw [hp] at r; cases r) e (DoAll.grow hp a)
  | _, _, .dcT z r n e a => .dcT z r (fun z => z.elim n fun e => by
      subst e
      rw [hp] at r; cases r) e (DoAll.grow hp a)
theorem DoAll.grow {p : Addr} (hp : H p = none) : ∀ {vs : List V} {ds : List PyData}, DoAll K H O vs ds → DoAll K H (fun b => O b ∨ b = p) vs ds
  | _, _, .nil => .nil
  | _, _, .cons r t => .cons (Do.grow hp r) (DoAll.grow hp t)
end
mutual
theorem Do.dp : ∀ {v : V} {d : PyData}, Do K H O v d → d.hasDict = false → Dp K H v d
  | _, _, .non, _ => .non
  | _, _, .bl b, _ => .bl b
  | _, _, .int i, _ => .int i
  | _, _, .str x, _ => .str x
  | _, _, .lst r _ a, h => .lst (SqL.of r) (DoAll.dp a (by simpa [PyData.hasDict] using h))
  | _, _, .tup r _ a, h => .tup r (DoAll.dp a (by simpa [PyData.hasDict] using h))
  | _, _, .dcK _ _ _ _ _, h => by simp [PyData.hasDict] at h
  | _, _, .dcT _ _ _ _ _, h => by simp [PyData.hasDict] at h
theorem DoAll.dp : ∀ {vs : List V} {ds : List PyData}, DoAll K H O vs ds → PyData.hasDictAll ds = false → DpAll K H vs ds
  | _, _, .nil, _ => .nil
  | _, _, .cons r t, h => by
    rw [PyData.hasDictAll, Bool.or_eq_false_iff] at h
    exact .cons (Do.dp r h.1) (DoAll.dp t h.2)
end
mutual
theorem noDict_of_canLay : ∀ (d : PyData), d.canLay0 = true → d.hasDict = false
  | .none, _ => rfl
  | .bool _, _ => rfl
  | .int _, _ => rfl
  | .str _, _ => rfl
  | .list xs, h => by
    rw [PyData.hasDict]
    exact noDict_of_canLayAll xs (by simpa [PyData.canLay0] using h)
  | .tuple xs, h => by
    rw [PyData.hasDict]
    exact noDict_of_canLayAll xs (by simpa [PyData.canLay0] using h)
  | .dict _, h => nomatch h
theorem noDict_of_canLayAll : ∀ (ds : List PyData), PyData.canLayAll0 ds = true → PyData.hasDictAll ds = false
  | [], _ => rfl
  | x :: xs, h => by
    have h' : x.canLay0 = true ∧ PyData.canLayAll0 xs = true := by simpa [PyData.canLayAll0] using h
    rw [PyData.hasDictAll, noDict_of_canLay x h'.1, noDict_of_canLayAll xs h'.2]
    rfl
end
theorem noDict_of_shaped {d : PyData} (h : PySem.SeqAt.shaped d = true) : d.hasDict = false := noDict_of_canLay d (PySem.SeqAt.canLay_of_shaped h)
theorem Do.tupN {a : Addr} {xs : List V} {ds : List PyData} (h : H a = some (.tup xs)) (t : DoAll K H O xs ds) : Do K H O (.ref a) (.tuple ds) := .tup (SqT.of h) (.inl h) t
theorem DoAll.length : ∀ {vs : List V} {ds : List PyData}, DoAll K H O vs ds → vs.length = ds.length
  | _, _, .nil => rfl
  | _, _, .cons _ t => by rw [List.length_cons, List.length_cons, DoAll.length t]
theorem DoAll.append : ∀ {vs ws : List V} {ds es : List PyData}, DoAll K H O vs ds → DoAll K H O ws es → DoAll K H O (vs ++ ws) (ds ++ es)
  | _, _, _, _, .nil, h => h
  | _, _, _, _, .cons r t, h => .cons r (DoAll.append t h)
theorem DoAll.get : ∀ {vs : List V} {ds : List PyData} {i : Nat} {d : PyData}, DoAll K H O vs ds → ds[i]? = some d → ∃ v, vs[i]? = some v ∧ Do K H O v d
  | _, _, _, _, .nil, e => by simp at e
  | _, _, 0, _, .cons r _, e => by
    simp at e
    subst e
    exact ⟨_, rfl, r⟩
  | _, _, i + 1, d, .cons _ t, e => by
    obtain ⟨v, h1, h2⟩ := DoAll.get (i := i) (d := d) t (by simpa using e)
    exact ⟨v, by simpa using h1, h2⟩
theorem DoAll.getV : ∀ {vs : List V} {ds : List PyData} {i : Nat} {v : V}, DoAll K H O vs ds → vs[i]? = some v → ∃ d, ds[i]? = some d ∧ Do K H O v d
  | _, _, _, _, .nil, e => by simp at e
  | _, _, 0, _, .cons r _, e => by
    simp at e
    subst e
    exact ⟨_, rfl, r⟩
  | _, _, i + 1, v, .cons _ t, e => by
    obtain ⟨d, h1, h2⟩ := DoAll.getV (i := i) (v := v) t (by simpa using e)
    exact ⟨d, by simpa using h1, h2⟩
theorem DoAll.take : ∀ {vs : List V} {ds : List PyData} (n : Nat), DoAll K H O vs ds → DoAll K H O (vs.take n) (ds.take n)
  | _, _, 0, _ => .nil
  | _, _, _ + 1, .nil => .nil
  | _, _, n + 1, .cons r t => .cons r (DoAll.take n t)
theorem DoAll.drop : ∀ {vs : List V} {ds : List PyData} (n : Nat), DoAll K H O vs ds → DoAll K H O (vs.drop n) (ds.drop n)
  | _, _, 0, h => h
  | _, _, _ + 1, .nil => .nil
  | _, _, n + 1, .cons _ t => DoAll.drop n t
theorem DoAll.eraseIdx : ∀ {vs : List V} {ds : List PyData} (n : Nat), DoAll K H O vs ds → DoAll K H O (vs.eraseIdx n) (ds.eraseIdx n)
  | _, _, _, .nil => .nil
  | _, _, 0, .cons _ t => t
  | _, _, n + 1, .cons r t => .cons r (DoAll.eraseIdx n t)
theorem DoAll.ints : ∀ (ns : List Int), DoAll K H O (ns.map V.int) (ns.map PyData.int)
  | [] => .nil
  | n :: ns => .cons (.int n) (DoAll.ints ns)
theorem DoAll.of_map {α : Type} {f : α → V} {g : α → PyData} : ∀ (l : List α), (∀ a ∈ l, Do K H O (f a) (g a)) → DoAll K H O (l.map f) (l.map g)
  | [], _ => .nil
  | a :: l, h => .cons (h a (List.mem_cons_self ..)) (DoAll.of_map l fun b hb => h b (List.mem_cons_of_mem _ hb))
end

/-! ## the draws' state -/
structure DS where
  cells : List Int
  lefts : List Int
  num : Nat
/-- defs that make code objects, and what these are called -/
def makers : List (Str × Str) := [("is_parting", "<genexpr>"), ("_law_two", "<lambda>"), ("_law_great_right", "<lambda>")]
def qOf (m : Str × Str) : Str := m.1 ++ ".<locals>." ++ m.2
/-- the tables of code objects, by what is known of the module, and the name that their code objects bear -/
def TK (K : PySem.W.Frag) (P : Addr) (q : Str) : Prop := ∃ m ∈ makers, ∃ c, PySem.W.tabIn K m.1 = some (c, P) ∧ q = qOf m
/-- T: the tables of code objects; f: a lambda that was handed over -/
structure SA where
  a : Addr
  l : Addr
  c : Addr
  T : Addr → Str → Prop := fun _ _ => False
  f : Option Addr := none
def SAd (sa : Option SA) (b : Addr) : Prop := ∃ s, sa = some s ∧ (b = s.a ∨ b = s.l ∨ b = s.c ∨ ∃ q, s.T b q)
def TabsP (T : Addr → Str → Prop) (H : Hp) : Prop := ∀ P q, T P q → LamX.TabS H P q
def StOk (sa : Option SA) (w : DS) (H : Hp) : Prop := ∀ s, sa = some s → TabsP s.T H ∧
  H s.a = some (.dK [(.inr "cells", .ref s.c), (.inr "lefts", .ref s.l), (.inr "at", .int (w.num : Int))]) ∧
  H s.c = some (.lst (w.cells.map V.int)) ∧ H s.l = some (.lst (w.lefts.map V.int)) ∧ s.l ≠ s.c ∧ w.lefts.length = w.cells.length ∧ 0 < w.cells.length
theorem StOk.keep {sa : Option SA} {w : DS} {M : Addr → Prop} {H H' : Hp} (k : Keep M H H') (hm : ∀ b, SAd sa b → ¬ M b) (h : StOk sa w H) : StOk sa w H' := fun s e => by
  obtain ⟨h0, h1, h2, h3, h4⟩ := h s e
  refine ⟨fun p q hp => ?_, k.same _ _ h1 (hm _ ⟨s, e, .inl rfl⟩), k.same _ _ h2 (hm _ ⟨s, e, .inr (.inr (.inl rfl))⟩), k.same _ _ h3 (hm _ ⟨s, e, .inr (.inl rfl)⟩), h4⟩
  obtain ⟨ps, a1, a2, a3⟩ := h0 p q hp
  refine ⟨ps, k.same _ _ a1 (hm _ ⟨s, e, .inr (.inr (.inr ⟨q, hp⟩))⟩), a2, fun pos cv hc => ?_⟩
  obtain ⟨c, e1, e2⟩ := a3 pos cv hc
  exact ⟨c, e1, k.ext _ _ e2⟩

/-! ## slots -/
/-- what a slot holds: nothing known; data; a list that this frame alone holds and may change; the draws' state; a def -/
inductive SV where
  | un
  | val (d : PyData)
  | own (ds : List PyData)
  | st
  | fn (x : Str)
  | lam

/-- what is fixed while a def's body runs -/
structure Cn where
  sa : Option SA
  O0 : Addr → Prop
  H0 : Hp
structure Cn.Ok (c : Cn) : Prop where
  sub : ∀ b, SAd c.sa b → c.O0 b
  dom : ∀ b, c.O0 b → ∃ o, c.H0 b = some o
def Ow (O0 : Addr → Prop) (ow : Nat → Option Addr) (b : Addr) : Prop := O0 b ∨ ∃ i, ow i = some b

def SlotOk (mg : Str → Option Value) (K : PySem.W.Frag) (H : Hp) (O : Addr → Prop) (sa : Option SA) (ow : Option Addr) (sv : SV) (v : Option V) : Prop :=
  match sv with
  | .un => True
  | .val d => ∃ x, v = some x ∧ Do K H O x d
  | .own ds => ∃ a xs, ow = some a ∧ v = some (.ref a) ∧ H a = some (.lst xs) ∧ DoAll K H O xs ds
  | .st => ∃ s, sa = some s ∧ v = some (.ref s.a)
  | .fn x => ∃ f, v = some (.ref f) ∧ mg x = some (.ref f)
  | .lam => ∃ s f, sa = some s ∧ s.f = some f ∧ v = some (.ref f)

/-- data that a loop walks -/
def Pinned (K : PySem.W.Frag) (H : Hp) (O : Addr → Prop) (P : List (V × PyData)) : Prop := ∀ p ∈ P, Do K H O p.1 p.2

/-- the state's tables are those that the module knows -/
def TkOk (K : PySem.W.Frag) (c : Cn) : Prop := ∃ s, c.sa = some s ∧ s.T = TK K
structure Rel (mg : Str → Option Value) (K : PySem.W.Frag) (c : Cn) (P : List (V × PyData)) (ow : Nat → Option Addr) (r : List SV) (w : DS) (σ : L2.St) (H : Hp) : Prop where
  ok : c.Ok
  len : r.length = σ.length
  slot : ∀ (i : Nat) (sv : SV), r[i]? = some sv → ∃ v, σ[i]? = some v ∧ SlotOk mg K H (Ow c.O0 ow) c.sa (ow i) sv v
  keep : Keep (SAd c.sa) c.H0 H
  own : ∀ i a, ow i = some a → c.H0 a = none ∧ ∃ xs, H a = some (.lst xs)
  owi : ∀ i j a, ow i = some a → ow j = some a → i = j
  st : StOk c.sa w H
  pin : Pinned K H (Ow c.O0 ow) P
  tk : TkOk K c

section
variable {mg : Str → Option Value} {K : PySem.W.Frag} {c : Cn} {P : List (V × PyData)} {ow : Nat → Option Addr} {r : List SV} {w w' : DS} {σ : L2.St} {H H' : Hp}
theorem Cn.Ok.dead (ok : c.Ok) {b : Addr} (h : c.O0 b) (n : c.H0 b = none) : False := by
  obtain ⟨o, e⟩ := ok.dom b h
  rw [n] at e; cases e
theorem Rel.subO (R : Rel mg K c P ow r w σ H) : ∀ b, SAd c.sa b → Ow c.O0 ow b := fun b h => .inl (R.ok.sub b h)
/-- whatever may change is in the heap -/
theorem Rel.dom (R : Rel mg K c P ow r w σ H) : ∀ b, Ow c.O0 ow b → ∃ o, H b = some o := fun b h => by
  rcases h with h | ⟨i, h⟩
  · obtain ⟨o, e⟩ := R.ok.dom b h
    by_cases hb : SAd c.sa b
    · obtain ⟨s, es, hb⟩ := hb
      obtain ⟨h0, h1, h2, h3, _⟩ := R.st s es
      rcases hb with hb | hb | hb | ⟨q, hb⟩
      · subst hb; exact ⟨_, h1⟩
      · subst hb; exact ⟨_, h3⟩
      · subst hb; exact ⟨_, h2⟩
      · obtain ⟨ps, a1, _⟩ := h0 _ _ hb
        exact ⟨_, a1⟩
    · exact ⟨o, R.keep.same b o e hb⟩
  · obtain ⟨_, xs, e⟩ := R.own i b h
    exact ⟨_, e⟩
theorem Rel.dom' (R : Rel mg K c P ow r w σ H) : ∀ b, Ow c.O0 ow b → ∃ o, H b = some o := R.dom
theorem Rel.fresh (R : Rel mg K c P ow r w σ H) {p : Addr} (h : H p = none) : ¬ Ow c.O0 ow p := fun z => by
  obtain ⟨o, e⟩ := R.dom' p z
  rw [h] at e; cases e
theorem Rel.nosa (R : Rel mg K c P ow r w σ H) {i : Nat} {a : Addr} (h : ow i = some a) : ¬ SAd c.sa a := fun z => R.ok.dead (R.ok.sub a z) (R.own i a h).1
theorem SlotOk.keep {O : Addr → Prop} {sa : Option SA} {o : Option Addr} {sv : SV} {v : Option V} {M : Addr → Prop} (k : Keep M H H') (hm : ∀ b, M b → O b) (ho : ∀ a, o = some a → ¬ M a) (h : SlotOk mg K H O sa o sv v) : SlotOk mg K H' O sa o sv v := by
  cases sv with
  | un => exact h
  | val d => obtain ⟨x, e, h⟩ := h; exact ⟨x, e, h.keep k hm⟩
  | own ds => obtain ⟨a, xs, e1, e2, h1, h2⟩ := h; exact ⟨a, xs, e1, e2, k.same _ _ h1 (ho a e1), h2.keep k hm⟩
  | st => exact h
  | fn x => exact h
  | lam => exact h
/-- behind an expression: the draws may have gone on, new things may have been made -/
theorem Rel.after (R : Rel mg K c P ow r w σ H) (k : Keep (SAd c.sa) H H') (s : StOk c.sa w' H') : Rel mg K c P ow r w' σ H' where
  ok := R.ok
  len := R.len
  slot := fun i sv e => by
    obtain ⟨v, e2, h⟩ := R.slot i sv e
    exact ⟨v, e2, h.keep k R.subO fun a ea => R.nosa ea⟩
  keep := R.keep.trans k
  own := fun i a e => by
    obtain ⟨h1, xs, h2⟩ := R.own i a e
    exact ⟨h1, xs, k.same _ _ h2 (R.nosa e)⟩
  owi := R.owi
  st := s
  pin := fun p hp => (R.pin p hp).keep k R.subO
  tk := R.tk
theorem Rel.new (R : Rel mg K c P ow r w σ H) {p : Addr} {o : HO} (h : H p = none) : Rel mg K c P ow r w σ (upd H p o) :=
  R.after (.new h) (R.st.keep (M := fun _ => False) (.new h) fun _ _ z => z)
theorem Rel.unpin (R : Rel mg K c P ow r w σ H) {P' : List (V × PyData)} (h : ∀ p ∈ P', p ∈ P) : Rel mg K c P' ow r w σ H :=
  ⟨R.ok, R.len, R.slot, R.keep, R.own, R.owi, R.st, fun p hp => R.pin p (h p hp), R.tk⟩
theorem Rel.pinned (R : Rel mg K c P ow r w σ H) {P' : List (V × PyData)} (h : Pinned K H (Ow c.O0 ow) P') : Rel mg K c (P' ++ P) ow r w σ H :=
  ⟨R.ok, R.len, R.slot, R.keep, R.own, R.owi, R.st, fun p hp => (List.mem_append.mp hp).elim (h p) (R.pin p), R.tk⟩
end

/-! ## results -/
inductive RE (α : Type) where
  | ok (a : α) (w : DS)
  | ex (n : Str) (x : PyData) (w : DS)
  | bad
inductive RS where
  | nx (r : List SV) (w : DS)
  | rt (d : PyData) (w : DS)
  | bk (r : List SV) (w : DS)
  | ct (r : List SV) (w : DS)
  | ex (n : Str) (x : PyData) (w : DS)
  | bad
abbrev EM := List SV → DS → RE PyData
abbrev TM := List SV → DS → RE Bool
abbrev AM := List SV → DS → RE (List SV)
abbrev IM := List SV → DS → RE (List PyData)
abbrev SM := List SV → DS → RS
def RE.bind {α β : Type} (x : RE α) (f : α → DS → RE β) : RE β :=
  match x with
  | .ok a w => f a w
  | .ex n x w => .ex n x w
  | .bad => .bad
@[simp] theorem RE.bind_ok {α β : Type} (a : α) (w : DS) (f : α → DS → RE β) : (RE.ok a w).bind f = f a w := rfl
@[simp] theorem RE.bind_ex {α β : Type} (n : Str) (x : PyData) (w : DS) (f : α → DS → RE β) : (RE.ex n x w : RE α).bind f = .ex n x w := rfl
@[simp] theorem RE.bind_bad {α β : Type} (f : α → DS → RE β) : (RE.bad : RE α).bind f = .bad := rfl
def RE.bindS {α : Type} (x : RE α) (f : α → DS → RS) : RS :=
  match x with
  | .ok a w => f a w
  | .ex n x w => .ex n x w
  | .bad => .bad
@[simp] theorem RE.bindS_ok {α : Type} (a : α) (w : DS) (f : α → DS → RS) : (RE.ok a w).bindS f = f a w := rfl
@[simp] theorem RE.bindS_ex {α : Type} (n : Str) (x : PyData) (w : DS) (f : α → DS → RS) : (RE.ex n x w : RE α).bindS f = .ex n x w := rfl
@[simp] theorem RE.bindS_bad {α : Type} (f : α → DS → RS) : (RE.bad : RE α).bindS f = .bad := rfl
def opt {α : Type} (x : Option α) (w : DS) : RE α :=
  match x with
  | some a => .ok a w
  | none => .bad
@[simp] theorem opt_some {α : Type} (a : α) (w : DS) : opt (some a) w = .ok a w := rfl
@[simp] theorem opt_none {α : Type} (w : DS) : opt (none : Option α) w = .bad := rfl

/-! ## readings -/
/-- what is wished of an exception: its class's name, what it bears, the draws' state, the heap -/
abbrev XW := (Nat → Option Addr) → Str → PyData → DS → L2.St → Hp → Prop
/-- what is fixed for a derivation: the module's names, the written part, the frame's constants, the wish -/
structure Dc where
  mg : Str → Option Value
  K : PySem.W.Frag
  c : Cn
  wish : XW
section
variable (C : Dc)
abbrev Dc.Rl (P : List (V × PyData)) (ow : Nat → Option Addr) (r : List SV) (w : DS) (σ : L2.St) (H : Hp) : Prop := Rel C.mg C.K C.c P ow r w σ H
def gE {α β : Type} (φ : (Nat → Option Addr) → α → β → Hp → Prop) (x : RE α) (P : List (V × PyData)) (ow : Nat → Option Addr) (r : List SV) (σ : L2.St) (H : Hp) (Q : β → Hp → Prop) : Prop :=
  match x with
  | .ok d w' => ∀ v H', Keep (SAd C.c.sa) H H' → C.Rl P ow r w' σ H' → φ ow d v H' → Q v H'
  | .ex n x w' => ∀ H', Keep (SAd C.c.sa) H H' → C.Rl P ow r w' σ H' → C.wish ow n x w' σ H'
  | .bad => False
def fD : (Nat → Option Addr) → PyData → V → Hp → Prop := fun ow d v H => Do C.K H (Ow C.c.O0 ow) v d
def fB : (Nat → Option Addr) → Bool → Bool → Hp → Prop := fun _ d b _ => d = b
def fA : (Nat → Option Addr) → List SV → List V → Hp → Prop := fun ow ds vs H => ds.length = vs.length ∧ ∀ (i : Nat) (sv : SV), ds[i]? = some sv → ∃ v, vs[i]? = some v ∧ SlotOk C.mg C.K H (Ow C.c.O0 ow) C.c.sa none sv (some v)
/-- an expression's; a test's; an argument list's -/
def tD (f : EM) : TE := fun σ H Q => ∃ P ow r w, C.Rl P ow r w σ H ∧ gE C (fD C) (f r w) P ow r σ H Q
def tT (f : TM) : TT := fun σ H Q => ∃ P ow r w, C.Rl P ow r w σ H ∧ gE C fB (f r w) P ow r σ H Q
def tA (f : AM) : TA := fun σ H Q => ∃ P ow r w, C.Rl P ow r w σ H ∧ gE C (fA C) (f r w) P ow r σ H Q
/-- a statement's -/
def gS (x : RS) (P : List (V × PyData)) (D : Ends) : Prop :=
  match x with
  | .nx r w => ∀ ow σ H, C.Rl P ow r w σ H → D.nx σ H
  | .bk r w => ∀ ow σ H, C.Rl P ow r w σ H → D.bk σ H
  | .ct r w => ∀ ow σ H, C.Rl P ow r w σ H → D.ct σ H
  | .rt d w => ∀ v H, Keep (SAd C.c.sa) C.c.H0 H → StOk C.c.sa w H → Do C.K H C.c.O0 v d → D.rt v H
  | .ex n x w => ∀ ow r σ H, C.Rl P ow r w σ H → C.wish ow n x w σ H
  | .bad => False
def tS (f : SM) : TS := fun D σ H => ∃ P ow r w, C.Rl P ow r w σ H ∧ gS C (f r w) P D
end
section
variable {C : Dc} {α β γ δ : Type}
/-- one after another: what follows the first -/
theorem gE.bind {φ : (Nat → Option Addr) → α → β → Hp → Prop} {ψ : (Nat → Option Addr) → γ → δ → Hp → Prop} {x : RE α} {f : α → DS → RE γ} {P : List (V × PyData)} {ow : Nat → Option Addr} {r : List SV} {σ : L2.St} {H : Hp} {Q : δ → Hp → Prop} {Q1 : β → Hp → Prop}
    (h : gE C ψ (x.bind f) P ow r σ H Q)
    (hk : ∀ d w' v H', x = .ok d w' → Keep (SAd C.c.sa) H H' → C.Rl P ow r w' σ H' → φ ow d v H' → gE C ψ (f d w') P ow r σ H' Q → Q1 v H') : gE C φ x P ow r σ H Q1 := by
  cases x with
  | ok d w' =>
    intro v H' k R p
    refine hk d w' v H' rfl k R p ?_
    have h' : gE C ψ (f d w') P ow r σ H Q := h
    revert h'
    cases f d w' with
    | ok e w2 => exact fun h' u H2 k2 R2 p2 => h' u H2 (k.trans k2) R2 p2
    | ex n y w2 => exact fun h' H2 k2 R2 => h' H2 (k.trans k2) R2
    | bad => exact fun h' => h'
  | ex n y w' => exact h
  | bad => exact h
theorem gE.bindS {φ : (Nat → Option Addr) → α → β → Hp → Prop} {x : RE α} {f : α → DS → RS} {P : List (V × PyData)} {ow : Nat → Option Addr} {r : List SV} {σ : L2.St} {H : Hp} {D : Ends} {Q1 : β → Hp → Prop}
    (h : gS C (x.bindS f) P D)
    (hk : ∀ d w' v H', x = .ok d w' → Keep (SAd C.c.sa) H H' → C.Rl P ow r w' σ H' → φ ow d v H' → gS C (f d w') P D → Q1 v H') : gE C φ x P ow r σ H Q1 := by
  cases x with
  | ok d w' => exact fun v H' k R p => hk d w' v H' rfl k R p h
  | ex n y w' => exact fun H' k R => h _ _ _ _ R
  | bad => exact h
theorem gE.ret {φ : (Nat → Option Addr) → α → β → Hp → Prop} {d : α} {w : DS} {P : List (V × PyData)} {ow : Nat → Option Addr} {r : List SV} {σ : L2.St} {H H' : Hp} {Q : β → Hp → Prop} {v : β}
    (h : gE C φ (.ok d w) P ow r σ H Q) (k : Keep (SAd C.c.sa) H H') (R : C.Rl P ow r w σ H') (p : φ ow d v H') : Q v H' := h v H' k R p
end
section
variable {X : Cx} {e : Expr} {t t' : TE}
theorem PE.imp (h : PE X e t) (hi : ∀ σ H Q, t' σ H Q → t σ H Q) : PE X e t' := ⟨fun pins s σ H Q I q => h.run pins s σ H Q I (hi σ H Q q)⟩
theorem PT.imp {t t' : TT} (h : PT X e t) (hi : ∀ σ H Q, t' σ H Q → t σ H Q) : PT X e t' := ⟨fun pins s σ H Q I q => h.run pins s σ H Q I (hi σ H Q q)⟩
theorem PW.imp {t t' : TT} (h : PW X e t) (hi : ∀ σ H Q, t' σ H Q → t σ H Q) : PW X e t' := ⟨fun wh pins s σ H Q I q => h.run wh pins s σ H Q I (hi σ H Q q)⟩
theorem PA.imp {es : List Expr} {t t' : TA} (h : PA X es t) (hi : ∀ σ H Q, t' σ H Q → t σ H Q) : PA X es t' := ⟨fun pos pins s σ H Q I q => h.run pos pins s σ H Q I (hi σ H Q q)⟩
theorem PS.imp {st : Stmt} {t t' : TS} (h : PS X st t) (hi : ∀ D σ H, t' D σ H → t D σ H) : PS X st t' := ⟨fun pins s σ H D I q => h.run pins s σ H D I (hi D σ H q)⟩
theorem PSs.imp {st : List Stmt} {t t' : TS} (h : PSs X st t) (hi : ∀ D σ H, t' D σ H → t D σ H) : PSs X st t' := ⟨fun pins s σ H D I q => h.run pins s σ H D I (hi D σ H q)⟩
end
end DL

namespace DL
open L2 PySem PySem.Spec PyProof.Rows
abbrev dc (X : Cx) (c : Cn) (W : XW) : Dc := ⟨X.mg, X.K, c, W⟩
/-! ## values in, values out -/
def rD2 (K : PySem.W.Frag) (g : PyData → PyData → Option PyData) : R2 := fun x y H Q => ∃ (O : Addr → Prop) (d e z : PyData), (∀ b, O b → ∃ o, H b = some o) ∧ Do K H O x d ∧ Do K H O y e ∧ g d e = some z ∧
  ∀ v H', Same H H' → Do K H' O v z → Q v H'
def rD1 (K : PySem.W.Frag) (g : PyData → Option PyData) : V → Hp → VK → Prop := fun x H Q => ∃ (O : Addr → Prop) (d z : PyData), (∀ b, O b → ∃ o, H b = some o) ∧ Do K H O x d ∧ g d = some z ∧
  ∀ v H', Same H H' → Do K H' O v z → Q v H'
def rDs (K : PySem.W.Frag) (g : List PyData → Option PyData) : List V → Hp → VK → Prop := fun xs H Q => ∃ (O : Addr → Prop) (ds : List PyData) (z : PyData), (∀ b, O b → ∃ o, H b = some o) ∧ DoAll K H O xs ds ∧ g ds = some z ∧
  ∀ v H', Same H H' → Do K H' O v z → Q v H'
section
variable {C : Dc}
theorem step_same {P : List (V × PyData)} {ow : Nat → Option Addr} {r : List SV} {w : DS} {σ : L2.St} {H H' : Hp} (R : C.Rl P ow r w σ H) (s : Same H H') : Keep (SAd C.c.sa) H H' ∧ C.Rl P ow r w σ H' :=
  ⟨.of_same s, R.after (.of_same s) (R.st.keep (M := fun _ => False) (.of_same s) fun _ _ z => z)⟩
/-! ## names, constants -/
def eV (i : Nat) : EM := fun r w =>
  match r[i]? with
  | some (.val d) => .ok d w
  | _ => .bad
theorem red_var {i : Nat} {σ : L2.St} {H : Hp} {Q : VK} (h : tD C (eV i) σ H Q) : tVar i σ H Q := by
  obtain ⟨P, ow, r, w, R, h⟩ := h
  unfold eV at h
  cases e : r[i]? with
  | none => rw [e] at h; exact h.elim
  | some sv =>
    rw [e] at h
    cases sv with
    | val d =>
      obtain ⟨v, e2, x, e3, p⟩ := R.slot i _ e
      subst e3
      exact ⟨x, e2, h x H .refl R p⟩
    | un => exact h.elim
    | own _ => exact h.elim
    | st => exact h.elim
    | fn _ => exact h.elim
    | lam => exact h.elim
def eC (d : PyData) : EM := fun _ w => .ok d w
theorem red_c {v : V} {d : PyData} (hv : ∀ (H : Hp) (O : Addr → Prop), Do C.K H O v d) {σ : L2.St} {H : Hp} {Q : VK} (h : tD C (eC d) σ H Q) : tC v σ H Q := by
  obtain ⟨P, ow, r, w, R, h⟩ := h
  exact h v H .refl R (hv _ _)
/-! ## two in a row, one, a list of them -/
def eBin (g : PyData → PyData → Option PyData) (fa fb : EM) : EM := fun r w => (fa r w).bind fun d w1 => (fb r w1).bind fun e w2 => opt (g d e) w2
theorem red_bin {g : PyData → PyData → Option PyData} {fa fb : EM} {σ : L2.St} {H : Hp} {Q : VK} (h : tD C (eBin g fa fb) σ H Q) : tOp (rD2 C.K g) (tD C fa) (tD C fb) σ H Q := by
  obtain ⟨P, ow, r, w, R, h⟩ := h
  refine ⟨P, ow, r, w, R, gE.bind h fun d w1 v H1 _ k1 R1 p1 h1 => ?_⟩
  refine ⟨P, ow, r, w1, R1, gE.bind h1 fun e w2 u H2 _ k2 R2 p2 h2 => ?_⟩
  cases hg : g d e with
  | none => rw [hg] at h2; exact h2.elim
  | some z =>
    rw [hg] at h2
    refine ⟨Ow C.c.O0 ow, d, e, z, R2.dom', Do.keep k2 R.subO p1, p2, hg, fun x H' s q => ?_⟩
    have st := step_same R2 s
    exact h2 x H' st.1 st.2 q
def eUn (g : PyData → Option PyData) (fa : EM) : EM := fun r w => (fa r w).bind fun d w1 => opt (g d) w1
theorem red_un {g : PyData → Option PyData} {fa : EM} {σ : L2.St} {H : Hp} {Q : VK} (h : tD C (eUn g fa) σ H Q) : tD C fa σ H fun x H1 => rD1 C.K g x H1 Q := by
  obtain ⟨P, ow, r, w, R, h⟩ := h
  refine ⟨P, ow, r, w, R, gE.bind h fun d w1 v H1 _ k1 R1 p1 h1 => ?_⟩
  cases hg : g d with
  | none => rw [hg] at h1; exact h1.elim
  | some z =>
    rw [hg] at h1
    refine ⟨Ow C.c.O0 ow, d, z, R1.dom', p1, hg, fun x H' s q => ?_⟩
    have st := step_same R1 s
    exact h1 x H' st.1 st.2 q
/-- data arguments, from the left -/
def fL : (Nat → Option Addr) → List PyData → List V → Hp → Prop := fun ow ds vs H => DoAll C.K H (Ow C.c.O0 ow) vs ds
def tL (C : Dc) (f : IM) : TA := fun σ H Q => ∃ P ow r w, C.Rl P ow r w σ H ∧ gE C (fL (C := C)) (f r w) P ow r σ H Q
def lNil : IM := fun _ w => .ok [] w
def lCons (f : EM) (g : IM) : IM := fun r w => (f r w).bind fun d w1 => (g r w1).bind fun ds w2 => .ok (d :: ds) w2
theorem red_lnil {σ : L2.St} {H : Hp} {Q : List V → Hp → Prop} (h : tL C lNil σ H Q) : tNil σ H Q := by
  obtain ⟨P, ow, r, w, R, h⟩ := h
  exact h [] H .refl R .nil
theorem red_lcons {f : EM} {g : IM} {σ : L2.St} {H : Hp} {Q : List V → Hp → Prop} (h : tL C (lCons f g) σ H Q) : tCons (tD C f) (tL C g) σ H Q := by
  obtain ⟨P, ow, r, w, R, h⟩ := h
  refine ⟨P, ow, r, w, R, gE.bind h fun d w1 v H1 _ k1 R1 p1 h1 => ?_⟩
  refine ⟨P, ow, r, w1, R1, gE.bind h1 fun ds w2 vs H2 _ k2 R2 p2 h2 => ?_⟩
  exact h2 (v :: vs) H2 .refl R2 (.cons (Do.keep k2 R.subO p1) p2)
/-- a built-in of data -/
def eCall (g : List PyData → Option PyData) (f : IM) : EM := fun r w => (f r w).bind fun ds w1 => opt (g ds) w1
theorem red_call {g : List PyData → Option PyData} {f : IM} {σ : L2.St} {H : Hp} {Q : VK} (h : tD C (eCall g f) σ H Q) : tCB (rDs C.K g) (tL C f) σ H Q := by
  obtain ⟨P, ow, r, w, R, h⟩ := h
  refine ⟨P, ow, r, w, R, gE.bind h fun ds w1 vs H1 _ k1 R1 p1 h1 => ?_⟩
  cases hg : g ds with
  | none => rw [hg] at h1; exact h1.elim
  | some z =>
    rw [hg] at h1
    refine ⟨Ow C.c.O0 ow, ds, z, R1.dom', p1, hg, fun x H' s q => ?_⟩
    have st := step_same R1 s
    exact h1 x H' st.1 st.2 q
/-! ## displays -/
def szL : Nat := 16777216
def eTup (f : IM) : EM := fun r w => (f r w).bind fun ds w1 => if ds.length ≤ szL then .ok (.tuple ds) w1 else .bad
def eLst (f : IM) : EM := fun r w => (f r w).bind fun ds w1 => if ds.length ≤ szL then .ok (.list ds) w1 else .bad
theorem szL_le : szL ≤ sizeLine := by rw [sizeLine_eq]; decide
theorem same_new {H : Hp} {p : Addr} {o : HO} (h : H p = none) : Same H (upd H p o) := fun b x e => by
  rw [upd_ne (ne_of_none e h)]; exact e
theorem red_tup {f : IM} {σ : L2.St} {H : Hp} {Q : VK} (h : tD C (eTup f) σ H Q) : tTup (tL C f) σ H Q := by
  obtain ⟨P, ow, r, w, R, h⟩ := h
  refine ⟨P, ow, r, w, R, gE.bind h fun ds w1 vs H1 _ k1 R1 p1 h1 => ?_⟩
  by_cases hl : ds.length ≤ szL
  · rw [if_pos hl] at h1
    refine ⟨by rw [DoAll.length p1]; exact Nat.le_trans hl szL_le, fun p hp => ?_⟩
    have st := step_same R1 (same_new (o := .tup vs) hp)
    exact h1 _ _ st.1 st.2 (.tupN upd_same (DoAll.keep (.new (M := fun _ => False) hp) (fun _ z => z.elim) p1))
  · rw [if_neg hl] at h1; exact h1.elim
theorem red_lst {f : IM} {σ : L2.St} {H : Hp} {Q : VK} (h : tD C (eLst f) σ H Q) : tLst (tL C f) σ H Q := by
  obtain ⟨P, ow, r, w, R, h⟩ := h
  refine ⟨P, ow, r, w, R, gE.bind h fun ds w1 vs H1 _ k1 R1 p1 h1 => ?_⟩
  by_cases hl : ds.length ≤ szL
  · rw [if_pos hl] at h1
    refine ⟨by rw [DoAll.length p1]; exact Nat.le_trans hl szL_le, fun p hp => ?_⟩
    have st := step_same R1 (same_new (o := .lst vs) hp)
    exact h1 _ _ st.1 st.2 (.lst upd_same (R1.fresh hp) (DoAll.keep (.new (M := fun _ => False) hp) (fun _ z => z.elim) p1))
  · rw [if_neg hl] at h1; exact h1.elim
/-! ## tests, and, or, not, a if t else b -/
def isB (f : EM) : TM := fun r w => (f r w).bind fun d w1 =>
  match d with
  | .bool b => .ok b w1
  | _ => .bad
theorem red_isB {f : EM} {σ : L2.St} {H : Hp} {Q : Bool → Hp → Prop} (h : tT C (isB f) σ H Q) : tTest (tD C f) σ H Q := by
  obtain ⟨P, ow, r, w, R, h⟩ := h
  refine ⟨P, ow, r, w, R, gE.bind h fun d w1 v H1 _ k1 R1 p1 h1 => ?_⟩
  cases d with
  | bool b =>
    cases p1
    exact ⟨b, rfl, h1 b H1 .refl R1 rfl⟩
  | none => exact h1.elim
  | int _ => exact h1.elim
  | str _ => exact h1.elim
  | list _ => exact h1.elim
  | tuple _ => exact h1.elim
  | dict _ => exact h1.elim
def tyAnd (fa fb : TM) : TM := fun r w => (fa r w).bind fun b w1 => if b = true then fb r w1 else .ok false w1
def tyOr (fa fb : TM) : TM := fun r w => (fa r w).bind fun b w1 => if b = true then .ok true w1 else fb r w1
def tyNot (fa : TM) : TM := fun r w => (fa r w).bind fun b w1 => .ok (!b) w1
theorem red_and {fa fb : TM} {σ : L2.St} {H : Hp} {Q : Bool → Hp → Prop} (h : tT C (tyAnd fa fb) σ H Q) : tAnd (tT C fa) (tT C fb) σ H Q := by
  obtain ⟨P, ow, r, w, R, h⟩ := h
  refine ⟨P, ow, r, w, R, gE.bind h fun b w1 c H1 _ k1 R1 p1 h1 => ?_⟩
  have e : b = c := p1
  subst e
  cases b with
  | true => exact ⟨P, ow, r, w1, R1, h1⟩
  | false => exact h1 false H1 .refl R1 rfl
theorem red_or {fa fb : TM} {σ : L2.St} {H : Hp} {Q : Bool → Hp → Prop} (h : tT C (tyOr fa fb) σ H Q) : tOr (tT C fa) (tT C fb) σ H Q := by
  obtain ⟨P, ow, r, w, R, h⟩ := h
  refine ⟨P, ow, r, w, R, gE.bind h fun b w1 c H1 _ k1 R1 p1 h1 => ?_⟩
  have e : b = c := p1
  subst e
  cases b with
  | false => exact ⟨P, ow, r, w1, R1, h1⟩
  | true => exact h1 true H1 .refl R1 rfl
theorem red_not {fa : TM} {σ : L2.St} {H : Hp} {Q : Bool → Hp → Prop} (h : tT C (tyNot fa) σ H Q) : tNot (tT C fa) σ H Q := by
  obtain ⟨P, ow, r, w, R, h⟩ := h
  refine ⟨P, ow, r, w, R, gE.bind h fun b w1 c H1 _ k1 R1 p1 h1 => ?_⟩
  have e : b = c := p1
  subst e
  exact h1 (!b) H1 .refl R1 rfl
def eIf (t : TM) (fa fb : EM) : EM := fun r w => (t r w).bind fun b w1 => if b = true then fa r w1 else fb r w1
theorem red_if {t : TM} {fa fb : EM} {σ : L2.St} {H : Hp} {Q : VK} (h : tD C (eIf t fa fb) σ H Q) : tIf (tT C t) (tD C fa) (tD C fb) σ H Q := by
  obtain ⟨P, ow, r, w, R, h⟩ := h
  refine ⟨P, ow, r, w, R, gE.bind h fun b w1 c H1 _ k1 R1 p1 h1 => ?_⟩
  have e : b = c := p1
  subst e
  cases b with
  | true => exact ⟨P, ow, r, w1, R1, h1⟩
  | false => exact ⟨P, ow, r, w1, R1, h1⟩
/-- and, or as values: all but the last True or False -/
def eAnd (fa fb : EM) : EM := fun r w => (isB fa r w).bind fun b w1 => if b = true then fb r w1 else .ok (.bool false) w1
def eOr (fa fb : EM) : EM := fun r w => (isB fa r w).bind fun b w1 => if b = true then .ok (.bool true) w1 else fb r w1
def eNot (fa : EM) : EM := fun r w => (isB fa r w).bind fun b w1 => .ok (.bool (!b)) w1
theorem red_isB' {f : EM} {σ : L2.St} {H : Hp} {Q : VK} {P : List (V × PyData)} {ow : Nat → Option Addr} {r : List SV} {w : DS} (R : C.Rl P ow r w σ H) {k : Bool → DS → RE PyData} (h : gE C (fD C) ((isB f r w).bind k) P ow r σ H Q) {Q1 : Bool → Hp → Prop}
    (hk : ∀ b w1 H1, Keep (SAd C.c.sa) H H1 → C.Rl P ow r w1 σ H1 → gE C (fD C) (k b w1) P ow r σ H1 Q → Q1 b H1) : tD C f σ H fun x H1 => ∃ c, x = .bl c ∧ Q1 c H1 := by
  have h' : tT C (isB f) σ H Q1 := ⟨P, ow, r, w, R, gE.bind h fun b w1 c H1 _ k1 R1 p1 h1 => by
    have e : b = c := p1
    subst e
    exact hk b w1 H1 k1 R1 h1⟩
  exact red_isB h'
theorem red_andV {fa fb : EM} {σ : L2.St} {H : Hp} {Q : VK} (h : tD C (eAnd fa fb) σ H Q) : tAndV (tD C fa) (tD C fb) σ H Q := by
  obtain ⟨P, ow, r, w, R, h⟩ := h
  refine red_isB' R h fun b w1 H1 k1 R1 h1 => ?_
  cases b with
  | true => exact ⟨P, ow, r, w1, R1, h1⟩
  | false => exact h1 _ H1 .refl R1 (.bl false)
theorem red_orV {fa fb : EM} {σ : L2.St} {H : Hp} {Q : VK} (h : tD C (eOr fa fb) σ H Q) : tOrV (tD C fa) (tD C fb) σ H Q := by
  obtain ⟨P, ow, r, w, R, h⟩ := h
  refine red_isB' R h fun b w1 H1 k1 R1 h1 => ?_
  cases b with
  | false => exact ⟨P, ow, r, w1, R1, h1⟩
  | true => exact h1 _ H1 .refl R1 (.bl true)
theorem red_notV {fa : EM} {σ : L2.St} {H : Hp} {Q : VK} (h : tD C (eNot fa) σ H Q) : tNotV (tD C fa) σ H Q := by
  obtain ⟨P, ow, r, w, R, h⟩ := h
  refine red_isB' R h fun b w1 H1 k1 R1 h1 => ?_
  exact h1 _ H1 .refl R1 (.bl (!b))
end
/-! ## the rules as terms -/
section
variable {X : Cx} {c : Cn} {W : XW} {a b e : Expr} {es : List Expr} {fa fb f : EM} {ta tb : TM} {fl : IM} {pos : Pos}
theorem dV (i : Nat) {x : Str} (h : PE X (.Name x pos) (tVar i)) : PE X (.Name x pos) (tD (dc X c W) (eV i)) := PE.imp h fun _ _ _ => red_var
theorem dI {i : Int} {j} : PE X (.Constant (.int i) j pos) (tD (dc X c W) (eC (.int i))) := PE.imp pe_int fun _ _ _ => red_c fun _ _ => .int i
theorem dBl {k : Bool} {j} : PE X (.Constant (.bool k) j pos) (tD (dc X c W) (eC (.bool k))) := PE.imp pe_bl fun _ _ _ => red_c fun _ _ => .bl k
theorem dN {j} : PE X (.Constant .none j pos) (tD (dc X c W) (eC .none)) := PE.imp pe_non fun _ _ _ => red_c fun _ _ => .non
theorem dS {x : Str} {j} : PE X (.Constant (.str x) j pos) (tD (dc X c W) (eC (.str x))) := PE.imp pe_str fun _ _ _ => red_c fun _ _ => .str x
theorem dOp {op : Operator} {g : PyData → PyData → Option PyData} (ho : OpR X (binaryOp op) (rD2 X.K g)) (ha : PE X a (tD (dc X c W) fa)) (hb : PE X b (tD (dc X c W) fb)) : PE X (.BinOp a op b pos) (tD (dc X c W) (eBin g fa fb)) := PE.imp (pe_op ho ha hb) fun _ _ _ => red_bin
theorem dUn {op : UnaryOp} {g : PyData → Option PyData} (ho : UnR X (unaryOp op) (rD1 X.K g)) (ha : PE X a (tD (dc X c W) fa)) : PE X (.UnaryOp op a pos) (tD (dc X c W) (eUn g fa)) := PE.imp (pe_un ho ha) fun _ _ _ => red_un
theorem dCmp {op : CmpOp} {g : PyData → PyData → Option PyData} (ho : OpR X (compareOp op) (rD2 X.K g)) (ha : PE X a (tD (dc X c W) fa)) (hb : PE X b (tD (dc X c W) fb)) (hm : behindInMarks op b = false) : PE X (.Compare a [op] [b] pos) (tD (dc X c W) (eBin g fa fb)) := PE.imp (pe_cmpR ho ha hb hm) fun _ _ _ => red_bin
theorem tCmp {op : CmpOp} {g : PyData → PyData → Option PyData} (ho : OpR X (compareOp op) (rD2 X.K g)) (ha : PE X a (tD (dc X c W) fa)) (hb : PE X b (tD (dc X c W) fb)) (hm : behindInMarks op b = false) : PT X (.Compare a [op] [b] pos) (tT (dc X c W) (isB (eBin g fa fb))) := PT.imp (pt_cmpR ho ha hb hm) fun _ _ _ h => red_bin (red_isB h)
theorem tVal (ha : PE X a (tD (dc X c W) fa)) (he : ∀ whole, isTrue a X.env whole = (do let v ← whole; standAt a.pos; holding [v] (truthy v)) := by intro _; rfl) : PT X a (tT (dc X c W) (isB fa)) := PT.imp (pt_val ha he) fun _ _ _ h => red_isB h
theorem tAnd1 (ha : PT X a (tT (dc X c W) ta)) : PW X (.BoolOp .And [a] pos) (tT (dc X c W) ta) := pw_and1 ha
theorem tOr1 (ha : PT X a (tT (dc X c W) ta)) : PW X (.BoolOp .Or [a] pos) (tT (dc X c W) ta) := pw_or1 ha
theorem tAndC {rest : List Expr} (ha : PT X a (tT (dc X c W) ta)) (hb : PW X (.BoolOp .And (b :: rest) pos) (tT (dc X c W) tb)) : PW X (.BoolOp .And (a :: b :: rest) pos) (tT (dc X c W) (tyAnd ta tb)) := PW.imp (pw_and ha hb) fun _ _ _ => red_and
theorem tOrC {rest : List Expr} (ha : PT X a (tT (dc X c W) ta)) (hb : PW X (.BoolOp .Or (b :: rest) pos) (tT (dc X c W) tb)) : PW X (.BoolOp .Or (a :: b :: rest) pos) (tT (dc X c W) (tyOr ta tb)) := PW.imp (pw_or ha hb) fun _ _ _ => red_or
theorem tNotC (ha : PT X a (tT (dc X c W) ta)) : PT X (.UnaryOp .Not a pos) (tT (dc X c W) (tyNot ta)) := PT.imp (pt_not ha) fun _ _ _ => red_not
theorem dIf {t : Expr} (ht : PT X t (tT (dc X c W) ta)) (ha : PE X a (tD (dc X c W) fa)) (hb : PE X b (tD (dc X c W) fb)) : PE X (.IfExp t a b pos) (tD (dc X c W) (eIf ta fa fb)) := PE.imp (pe_ifExp ht ha hb) fun _ _ _ => red_if
theorem dOne {op} (ha : PE X a (tD (dc X c W) fa)) : PE X (.BoolOp op [a] pos) (tD (dc X c W) fa) := pe_one ha
theorem dAnd {rest : List Expr} (ha : PE X a (tD (dc X c W) fa)) (hb : PE X (.BoolOp .And (b :: rest) pos) (tD (dc X c W) fb)) : PE X (.BoolOp .And (a :: b :: rest) pos) (tD (dc X c W) (eAnd fa fb)) := PE.imp (pe_and ha hb) fun _ _ _ => red_andV
theorem dOr {rest : List Expr} (ha : PE X a (tD (dc X c W) fa)) (hb : PE X (.BoolOp .Or (b :: rest) pos) (tD (dc X c W) fb)) : PE X (.BoolOp .Or (a :: b :: rest) pos) (tD (dc X c W) (eOr fa fb)) := PE.imp (pe_or ha hb) fun _ _ _ => red_orV
theorem dNot (ha : PE X a (tD (dc X c W) fa)) : PE X (.UnaryOp .Not a pos) (tD (dc X c W) (eNot fa)) := PE.imp (pe_not ha) fun _ _ _ => red_notV
theorem aNil : PA X [] (tL (dc X c W) lNil) := PA.imp pa_nil fun _ _ _ => red_lnil
theorem aCons (ha : PE X e (tD (dc X c W) f)) (hr : PA X es (tL (dc X c W) fl)) (hs : starEach (e :: es) X.env = (false, eval e X.env) :: starEach es X.env := by rfl) : PA X (e :: es) (tL (dc X c W) (lCons f fl)) := PA.imp (pa_cons ha hr hs) fun _ _ _ => red_lcons
theorem dTup {k} (h : PA X es (tL (dc X c W) fl)) : PE X (.Tuple es k pos) (tD (dc X c W) (eTup fl)) := PE.imp (pe_tup h) fun _ _ _ => red_tup
theorem dLst (h : PA X es (tL (dc X c W) fl)) : PE X (.List es pos) (tD (dc X c W) (eLst fl)) := PE.imp (pe_lst h) fun _ _ _ => red_lst
theorem dBlt {x : Str} {p : Pos} {id : String} {g : List PyData → Option PyData} (hc : CallR X (.builtin id) (rDs X.K g)) (hg : Gl X x) (hm : X.mg x = none) (hv : bootBuiltins x = some (.builtin id)) (ha : PA X (e :: es) (tL (dc X c W) fl)) (hn : x ≠ "__name__" := by decide) (hdb : (x == ("__debug__" : Str)) = false := by decide)
    (he : starEach (e :: es) X.env = (false, eval e X.env) :: starEach es X.env := by rfl) (hpl : (backTo pos (starEach es X.env)).any (·.1) = false := by rfl) : PE X (.Call (.Name x p) (e :: es) [] pos) (tD (dc X c W) (eCall g fl)) := PE.imp (pe_callB hc hg hm hv ha hn hdb he hpl) fun _ _ _ => red_call
theorem dTyp {x : Str} {p : Pos} {T : String} {g : List PyData → Option PyData} (hc : CallR X (.type T) (rDs X.K g)) (hg : Gl X x) (hm : X.mg x = none) (hv : bootBuiltins x = some (.type T)) (ha : PA X (e :: es) (tL (dc X c W) fl)) (hn : x ≠ "__name__" := by decide) (hdb : (x == ("__debug__" : Str)) = false := by decide)
    (he : starEach (e :: es) X.env = (false, eval e X.env) :: starEach es X.env := by rfl) (hpl : (backTo pos (starEach es X.env)).any (·.1) = false := by rfl) : PE X (.Call (.Name x p) (e :: es) [] pos) (tD (dc X c W) (eCall g fl)) := PE.imp (pe_callTy hc hg hm hv ha hn hdb he hpl) fun _ _ _ => red_call
end
end DL

namespace DL
open L2 PySem PySem.Spec PyProof.Rows
section
variable {mg : Str → Option Value} {K : PySem.W.Frag} {c : Cn} {P : List (V × PyData)} {ow : Nat → Option Addr} {r : List SV} {w w' : DS} {σ : L2.St} {H H' : Hp}
/-! ## slots change -/
def owOff (ow : Nat → Option Addr) (i : Nat) : Nat → Option Addr := fun j => if j = i then none else ow j
def owOn (ow : Nat → Option Addr) (i : Nat) (p : Addr) : Nat → Option Addr := fun j => if j = i then some p else ow j
theorem owOff_sub {O0 : Addr → Prop} {i : Nat} : ∀ b, Ow O0 (owOff ow i) b → Ow O0 ow b := fun b h => by
  rcases h with h | ⟨j, h⟩
  · exact .inl h
  · unfold owOff at h
    by_cases e : j = i
    · rw [if_pos e] at h; cases h
    · rw [if_neg e] at h; exact .inr ⟨j, h⟩
theorem SlotOk.weak {O O' : Addr → Prop} {sa : Option SA} {o o' : Option Addr} {sv : SV} {v : Option V} (h : ∀ b, O' b → O b) (ho : ∀ ds, sv = .own ds → o' = o) (s : SlotOk mg K H O sa o sv v) : SlotOk mg K H O' sa o' sv v := by
  cases sv with
  | un => exact s
  | val d => obtain ⟨x, e, p⟩ := s; exact ⟨x, e, p.weak h⟩
  | own ds => obtain ⟨a, xs, e1, e2, h1, h2⟩ := s; exact ⟨a, xs, (ho ds rfl).trans e1, e2, h1, h2.weak h⟩
  | st => exact s
  | fn x => exact s
  | lam => exact s
/-- slot i gets a new content that is no own list -/
theorem Rel.set (R : Rel mg K c P ow r w σ H) (i : Nat) {sv : SV} {v : Option V} (hs : SlotOk mg K H (Ow c.O0 (owOff ow i)) c.sa none sv v) : Rel mg K c P (owOff ow i) (r.set i sv) w (σ.set i v) H where
  ok := R.ok
  len := by rw [List.length_set, List.length_set, R.len]
  slot := fun j sj e => by
    by_cases hj : i = j
    · subst hj
      have hl : i < r.length := by
        have := (List.getElem?_eq_some_iff.mp e).1
        rwa [List.length_set] at this
      rw [List.getElem?_set_self hl] at e
      cases e
      refine ⟨v, List.getElem?_set_self (by rw [← R.len]; exact hl), ?_⟩
      have : owOff ow i i = none := if_pos rfl
      rw [this]; exact hs
    · rw [List.getElem?_set_ne hj] at e
      obtain ⟨u, e2, h⟩ := R.slot j sj e
      refine ⟨u, by rw [List.getElem?_set_ne hj]; exact e2, h.weak owOff_sub fun _ _ => ?_⟩
      exact if_neg (Ne.symm hj)
  keep := R.keep
  own := fun j a e => by
    unfold owOff at e
    by_cases ej : j = i
    · rw [if_pos ej] at e; cases e
    · rw [if_neg ej] at e; exact R.own j a e
  owi := fun j k a e1 e2 => by
    unfold owOff at e1 e2
    by_cases ej : j = i
    · rw [if_pos ej] at e1; cases e1
    · by_cases ek : k = i
      · rw [if_pos ek] at e2; cases e2
      · rw [if_neg ej] at e1; rw [if_neg ek] at e2; exact R.owi j k a e1 e2
  st := R.st
  pin := fun p hp => (R.pin p hp).weak owOff_sub
  tk := R.tk
theorem Rel.setVal (R : Rel mg K c P ow r w σ H) (i : Nat) {d : PyData} {v : V} (h : Do K H (Ow c.O0 ow) v d) : Rel mg K c P (owOff ow i) (r.set i (.val d)) w (σ.set i (some v)) H :=
  R.set i ⟨v, rfl, h.weak owOff_sub⟩
/-- slot i holds a new list of its own -/
theorem Rel.setOwn (R : Rel mg K c P ow r w σ H) (i : Nat) {ds : List PyData} {xs : List V} {p : Addr} (hp : H p = none) (h : DoAll K H (Ow c.O0 ow) xs ds) : Rel mg K c P (owOn ow i p) (r.set i (.own ds)) w (σ.set i (some (.ref p))) (upd H p (.lst xs)) := by
  have sub : ∀ b, Ow c.O0 (owOn ow i p) b → Ow c.O0 ow b ∨ b = p := fun b h => by
    rcases h with h | ⟨j, h⟩
    · exact .inl (.inl h)
    · unfold owOn at h
      by_cases e : j = i
      · rw [if_pos e] at h; exact .inr (Option.some.inj h).symm
      · rw [if_neg e] at h; exact .inl (.inr ⟨j, h⟩)
  have kp : Keep (fun _ => False) H (upd H p (.lst xs)) := .new hp
  have hp0 : c.H0 p = none := by
    cases q : c.H0 p with
    | none => rfl
    | some o =>
      by_cases hs : SAd c.sa p
      · obtain ⟨s, es, hb⟩ := hs
        obtain ⟨h0, h1, h2, h3, _⟩ := R.st s es
        rcases hb with hb | hb | hb | ⟨q2, hb⟩
        · rw [hb, h1] at hp; cases hp
        · rw [hb, h3] at hp; cases hp
        · rw [hb, h2] at hp; cases hp
        · obtain ⟨ps, a1, _⟩ := h0 _ _ hb
          rw [a1] at hp; cases hp
      · have := R.keep.same p o q hs
        rw [hp] at this; cases this
  have ne : ∀ j a, ow j = some a → a ≠ p := fun j a e z => by
    obtain ⟨_, ys, h2⟩ := R.own j a e
    rw [z, hp] at h2; cases h2
  exact {
    ok := R.ok
    len := by rw [List.length_set, List.length_set, R.len]
    slot := fun j sj e => by
      by_cases hj : i = j
      · subst hj
        have hl : i < r.length := by
          have := (List.getElem?_eq_some_iff.mp e).1
          rwa [List.length_set] at this
        rw [List.getElem?_set_self hl] at e
        cases e
        refine ⟨some (.ref p), List.getElem?_set_self (by rw [← R.len]; exact hl), p, xs, if_pos rfl, rfl, upd_same, ?_⟩
        exact ((h.grow hp).weak sub).keep kp (fun _ z => z.elim)
      · rw [List.getElem?_set_ne hj] at e
        obtain ⟨u, e2, q⟩ := R.slot j sj e
        refine ⟨u, by rw [List.getElem?_set_ne hj]; exact e2, ?_⟩
        have eo : owOn ow i p j = ow j := if_neg (Ne.symm hj)
        rw [eo]
        cases sj with
        | un => exact q
        | val d => obtain ⟨x, e, q⟩ := q; exact ⟨x, e, ((q.grow hp).weak sub).keep kp (fun _ z => z.elim)⟩
        | own ds2 => obtain ⟨a, ys, e1, e3, h1, h2⟩ := q; exact ⟨a, ys, e1, e3, by rw [upd_ne (ne j a e1)]; exact h1, ((h2.grow hp).weak sub).keep kp (fun _ z => z.elim)⟩
        | st => exact q
        | fn x => exact q
        | lam => exact q
    keep := R.keep.trans (.new hp)
    own := fun j a e => by
      unfold owOn at e
      by_cases ej : j = i
      · rw [if_pos ej] at e
        cases e
        exact ⟨hp0, xs, upd_same⟩
      · rw [if_neg ej] at e
        obtain ⟨h1, ys, h2⟩ := R.own j a e
        exact ⟨h1, ys, by rw [upd_ne (ne j a e)]; exact h2⟩
    owi := fun j k a e1 e2 => by
      unfold owOn at e1 e2
      by_cases ej : j = i
      · rw [if_pos ej] at e1
        by_cases ek : k = i
        · rw [ej, ek]
        · rw [if_neg ek] at e2
          exact absurd (Option.some.inj e1).symm (ne k a e2)
      · rw [if_neg ej] at e1
        by_cases ek : k = i
        · rw [if_pos ek] at e2
          exact absurd (Option.some.inj e2).symm (ne j a e1)
        · rw [if_neg ek] at e2
          exact R.owi j k a e1 e2
    st := R.st.keep kp fun _ _ z => z
    pin := fun q hq => (((R.pin q hq).grow hp).weak sub).keep kp (fun _ z => z.elim)
    tk := R.tk }
/-- the own list of slot i changes -/
theorem Rel.turn (R : Rel mg K c P ow r w σ H) {i : Nat} {ds ds' : List PyData} {a : Addr} {xs : List V} (e : r[i]? = some (.own ds)) (ea : ow i = some a) (h : DoAll K H (Ow c.O0 ow) xs ds') : Rel mg K c P ow (r.set i (.own ds')) w σ (upd H a (.lst xs)) := by
  obtain ⟨h0, ys, hy⟩ := R.own i a ea
  have hO : Ow c.O0 ow a := .inr ⟨i, ea⟩
  have kp : Keep (fun b => b = a) H (upd H a (.lst xs)) := ⟨fun b o q n => by rw [upd_ne n]; exact q, fun b zs q => by
    have n : b ≠ a := fun z => by rw [z, hy] at q; cases q
    rw [upd_ne n]; exact q, fun b o u q => by
    have n : b ≠ a := fun z => by rw [z, hy] at q; cases q
    rw [upd_ne n]; exact q, fun b u q => by
    have n : b ≠ a := fun z => by rw [z, hy] at q; cases q
    rw [upd_ne n]; exact q⟩
  have hm : ∀ b, b = a → Ow c.O0 ow b := fun b z => by rw [z]; exact hO
  have hns : ∀ b, SAd c.sa b → ¬ b = a := fun b hb z => R.nosa ea (z ▸ hb)
  exact {
    ok := R.ok
    len := by rw [List.length_set, R.len]
    slot := fun j sj ej => by
      by_cases hj : i = j
      · subst hj
        have hl : i < r.length := (List.getElem?_eq_some_iff.mp e).1
        rw [List.getElem?_set_self hl] at ej
        cases ej
        obtain ⟨v, e2, a', zs, e3, e4, _, _⟩ := R.slot i _ e
        rw [ea] at e3
        cases e3
        exact ⟨v, e2, a, xs, ea, e4, upd_same, h.keep kp hm⟩
      · rw [List.getElem?_set_ne hj] at ej
        obtain ⟨v, e2, q⟩ := R.slot j sj ej
        exact ⟨v, e2, q.keep kp hm fun b eb z => hj (R.owi i j b (z ▸ ea) eb)⟩
    keep := by
      refine ⟨fun b o q n => ?_, fun b zs q => kp.tup _ _ (R.keep.tup _ _ q), fun b o u q => kp.frz _ _ _ (R.keep.frz _ _ _ q), fun b u q => kp.ext _ _ (R.keep.ext _ _ q)⟩
      rw [upd_ne (fun z => by rw [z, h0] at q; cases q)]
      exact R.keep.same b o q n
    own := fun j b ej => by
      obtain ⟨h1, zs, h2⟩ := R.own j b ej
      by_cases hb : b = a
      · subst hb; exact ⟨h1, xs, upd_same⟩
      · exact ⟨h1, zs, by rw [upd_ne hb]; exact h2⟩
    owi := R.owi
    st := R.st.keep kp hns
    pin := fun p hp => (R.pin p hp).keep kp hm
    tk := R.tk }
/-- the own list of slot i may be held by others too: from here on it does not change -/
def frz1 (i : Nat) (r : List SV) : List SV :=
  match r[i]? with
  | some (.own ds) => r.set i (.val (.list ds))
  | _ => r
theorem Rel.frz (R : Rel mg K c P ow r w σ H) (i : Nat) : ∃ ow', Rel mg K c P ow' (frz1 i r) w σ H := by
  unfold frz1
  cases e : r[i]? with
  | none => exact ⟨ow, R⟩
  | some sv =>
    cases sv with
    | own ds =>
      obtain ⟨v, e2, a, xs, ea, ev, h1, h2⟩ := R.slot i _ e
      subst ev
      have na : ¬ Ow c.O0 (owOff ow i) a := fun z => by
        rcases z with z | ⟨j, z⟩
        · exact R.ok.dead z (R.own i a ea).1
        · unfold owOff at z
          by_cases ej : j = i
          · rw [if_pos ej] at z; cases z
          · rw [if_neg ej] at z; exact ej (R.owi j i a z ea)
      have q := R.set (sv := .val (.list ds)) (v := some (.ref a)) i ⟨_, rfl, .lst h1 na (h2.weak owOff_sub)⟩
      have es : σ.set i (some (.ref a)) = σ := by
        obtain ⟨hl, hv⟩ := List.getElem?_eq_some_iff.mp e2
        rw [← hv]; exact List.set_getElem_self hl
      rw [es] at q
      exact ⟨_, q⟩
    | un => exact ⟨ow, R⟩
    | val _ => exact ⟨ow, R⟩
    | st => exact ⟨ow, R⟩
    | fn _ => exact ⟨ow, R⟩
    | lam => exact ⟨ow, R⟩
end

/-! ## targets -/
inductive Pat where
  | nm (i : Nat)
  | tp (ps : List Pat)
mutual
def setP : Pat → PyData → List SV → Option (List SV)
  | .nm i, d, r => some (r.set i (.val d))
  | .tp ps, .tuple ds, r => setPs ps ds r
  | .tp _, _, _ => none
def setPs : List Pat → List PyData → List SV → Option (List SV)
  | [], [], r => some r
  | p :: ps, d :: ds, r => (setP p d r).bind (setPs ps ds)
  | _, _, _ => none
end
mutual
def slotsP : Pat → List Nat
  | .nm i => [i]
  | .tp ps => slotsPs ps
def slotsPs : List Pat → List Nat
  | [] => []
  | p :: ps => slotsP p ++ slotsPs ps
end
def SameAt (l : List Nat) (σ σ' : L2.St) : Prop := σ'.length = σ.length ∧ ∀ i, i ∉ l → σ'[i]? = σ[i]?
theorem SameAt.trans {l m : List Nat} {σ σ' σ2 : L2.St} (a : SameAt l σ σ') (b : SameAt m σ' σ2) : SameAt (l ++ m) σ σ2 :=
  ⟨b.1.trans a.1, fun i h => (b.2 i fun z => h (List.mem_append_right _ z)).trans (a.2 i fun z => h (List.mem_append_left _ z))⟩
section
variable {C : Dc}
def tP (C : Dc) (p : Pat) : TG := fun v σ H Q => ∃ P ow r w d r', C.Rl P ow r w σ H ∧ Do C.K H (Ow C.c.O0 ow) v d ∧ setP p d r = some r' ∧ ∀ σ' ow', C.Rl P ow' r' w σ' H → SameAt (slotsP p) σ σ' → (∀ b, Ow C.c.O0 ow' b → Ow C.c.O0 ow b) → Q σ' H
def tPs (C : Dc) (ps : List Pat) : TGs := fun vs σ H Q => ∃ P ow r w ds r', C.Rl P ow r w σ H ∧ DoAll C.K H (Ow C.c.O0 ow) vs ds ∧ setPs ps ds r = some r' ∧ ∀ σ' ow', C.Rl P ow' r' w σ' H → SameAt (slotsPs ps) σ σ' → (∀ b, Ow C.c.O0 ow' b → Ow C.c.O0 ow b) → Q σ' H
theorem red_pnm {i : Nat} {v : V} {σ : L2.St} {H : Hp} {Q : L2.St → Hp → Prop} (h : tP C (.nm i) v σ H Q) : gName i v σ H Q := by
  obtain ⟨P, ow, r, w, d, r', R, p, e, q⟩ := h
  have e' : r' = r.set i (.val d) := by
    unfold setP at e
    exact (Option.some.inj e).symm
  subst e'
  refine q _ _ (R.setVal i p) ⟨List.length_set, fun j hj => ?_⟩ owOff_sub
  rw [List.getElem?_set_ne]
  intro z
  exact hj (by rw [z]; unfold slotsP; exact List.mem_singleton.mpr rfl)
theorem red_ptp {ps : List Pat} {n : Nat} (hn : ps.length = n) {v : V} {σ : L2.St} {H : Hp} {Q : L2.St → Hp → Prop} (h : tP C (.tp ps) v σ H Q) : gTup C.K n (tPs C ps) v σ H Q := by
  obtain ⟨P, ow, r, w, d, r', R, p, e, q⟩ := h
  cases d with
  | tuple ds =>
    unfold setP at e
    cases p with
    | @tup a xs _ hs _ ha =>
      have hl : ∀ (ps : List Pat) (ds : List PyData) (r r' : List SV), setPs ps ds r = some r' → ps.length = ds.length := by
        intro ps
        induction ps with
        | nil =>
          intro ds r r' e
          cases ds with
          | nil => rfl
          | cons _ _ => unfold setPs at e; cases e
        | cons p ps ih =>
          intro ds r r' e
          cases ds with
          | nil => unfold setPs at e; cases e
          | cons d ds =>
            unfold setPs at e
            cases e1 : setP p d r with
            | none => rw [e1] at e; cases e
            | some r1 =>
              rw [e1] at e
              rw [List.length_cons, List.length_cons, ih ds r1 r' e]
      refine ⟨a, xs, rfl, hs, ?_, P, ow, r, w, ds, r', R, ha, e, q⟩
      rw [ha.length, ← hl _ _ _ _ e, hn]
  | none => unfold setP at e; cases e
  | bool _ => unfold setP at e; cases e
  | int _ => unfold setP at e; cases e
  | str _ => unfold setP at e; cases e
  | list _ => unfold setP at e; cases e
  | dict _ => unfold setP at e; cases e
theorem red_psnil {vs : List V} {σ : L2.St} {H : Hp} {Q : L2.St → Hp → Prop} (h : tPs C [] vs σ H Q) : gNil vs σ H Q := by
  obtain ⟨P, ow, r, w, ds, r', R, p, e, q⟩ := h
  cases p with
  | nil =>
    unfold setPs at e
    cases e
    exact ⟨rfl, q _ _ R ⟨rfl, fun _ _ => rfl⟩ fun _ h => h⟩
  | cons _ _ => unfold setPs at e; cases e
theorem red_pscons {p : Pat} {ps : List Pat} {vs : List V} {σ : L2.St} {H : Hp} {Q : L2.St → Hp → Prop} (h : tPs C (p :: ps) vs σ H Q) : gCons (tP C p) (tPs C ps) vs σ H Q := by
  obtain ⟨P, ow, r, w, ds, r', R, pd, e, q⟩ := h
  cases pd with
  | nil => unfold setPs at e; cases e
  | @cons v vs d ds hv hvs =>
    unfold setPs at e
    cases e1 : setP p d r with
    | none => rw [e1] at e; cases e
    | some r1 =>
      rw [e1] at e
      have e2 : setPs ps ds r1 = some r' := e
      refine ⟨v, vs, rfl, P, ow, r, w, d, r1, R, hv, e1, fun σ' ow' R' sa sub => ⟨P, ow', r1, w, ds, r', R', hvs.weak sub, e2, fun σ2 ow2 R2 sa2 sub2 => ?_⟩⟩
      refine q σ2 ow2 R2 ?_ fun b hb => sub b (sub2 b hb)
      unfold slotsPs
      exact sa.trans sa2
end
section
variable {X : Cx} {c : Cn} {W : XW} {pos : Pos}
theorem PG.imp {e : Expr} {t t' : TG} (h : PG X e t) (hi : ∀ v σ H Q, t' v σ H Q → t v σ H Q) : PG X e t' := ⟨fun pins s σ H v u Q I r q => h.run pins s σ H v u Q I r (hi v σ H Q q)⟩
theorem PGs.imp {es : List Expr} {t t' : TGs} (h : PGs X es t) (hi : ∀ v σ H Q, t' v σ H Q → t v σ H Q) : PGs X es t' := ⟨fun pins s σ H v u Q I r q => h.run pins s σ H v u Q I r (hi v σ H Q q)⟩
theorem gNm (i : Nat) {x : Str} (hN : X.N.Nodup) (hi : X.N[i]? = some x) (hx : Loc X.env.scope x) (hf : X.fn x = true ∨ X.env.scope.names.lookup x = some .local := by first | exact .inl rfl | exact .inr rfl | assumption) : PG X (.Name x pos) (tP (dc X c W) (.nm i)) :=
  PG.imp (pg_name hN hi hx hf) fun _ _ _ _ => red_pnm
theorem gsNil : PGs X [] (tPs (dc X c W) []) := PGs.imp pgs_nil fun _ _ _ _ => red_psnil
theorem gsCons {e : Expr} {es : List Expr} {p : Pat} {ps : List Pat} (h1 : PG X e (tP (dc X c W) p)) (h2 : PGs X es (tPs (dc X c W) ps))
    (hs : (assignEach (e :: es) X.env).map (·.2) = assign e X.env :: (assignEach es X.env).map (·.2) := by rfl) : PGs X (e :: es) (tPs (dc X c W) (p :: ps)) := PGs.imp (pgs_cons h1 h2 hs) fun _ _ _ _ => red_pscons
theorem gTp {es : List Expr} {k : Nat} {ps : List Pat} (hc : X.calm = true) (h : PGs X es (tPs (dc X c W) ps)) (hn : (assignEach es X.env).length = ps.length := by rfl) (hst : (assignEach es X.env).findIdx? (·.1) = none := by rfl) : PG X (.Tuple es k pos) (tP (dc X c W) (.tp ps)) :=
  PG.imp (pg_tup hc h hn hst) fun _ _ _ _ => red_ptp rfl
end

/-! ## statements -/
def sSeq (f g : SM) : SM := fun r w =>
  match f r w with
  | .nx r1 w1 => g r1 w1
  | .rt d w1 => .rt d w1
  | .bk r1 w1 => .bk r1 w1
  | .ct r1 w1 => .ct r1 w1
  | .ex n x w1 => .ex n x w1
  | .bad => .bad
def sPass : SM := fun r w => .nx r w
def sBreak : SM := fun r w => .bk r w
def sCont : SM := fun r w => .ct r w
def sRet (f : EM) : SM := fun r w => (f r w).bindS fun d w1 => .rt d w1
def sRetN : SM := fun _ w => .rt .none w
def sDrop (f : EM) : SM := fun r w => (f r w).bindS fun _ w1 => .nx r w1
def sAsg (p : Pat) (f : EM) : SM := fun r w => (f r w).bindS fun d w1 =>
  match setP p d r with
  | some r1 => .nx r1 w1
  | none => .bad
def sSet (i : Nat) (f : EM) : SM := fun r w => (f r w).bindS fun d w1 => .nx (r.set i (.val d)) w1
def sOwn (i : Nat) (f : IM) : SM := fun r w => (f r w).bindS fun ds w1 => if ds.length ≤ szL then .nx (r.set i (.own ds)) w1 else .bad
def sIf (t : TM) (f g : SM) : SM := fun r w => (t r w).bindS fun b w1 => if b = true then f r w1 else g r w1
def sFrz (i : Nat) (f : SM) : SM := fun r w => f (frz1 i r) w
def sApp (i : Nat) (f : EM) : SM := fun r w =>
  match r[i]? with
  | some (.own ds) => (f r w).bindS fun d w1 => if ds.length < szL then .nx (r.set i (.own (ds ++ [d]))) w1 else .bad
  | _ => .bad
section
variable {C : Dc} {D : Ends} {σ : L2.St} {H : Hp}
theorem red_seq {f g : SM} (h : tS C (sSeq f g) D σ H) : tSeq (tS C f) (tS C g) D σ H := by
  obtain ⟨P, ow, r, w, R, h⟩ := h
  refine ⟨P, ow, r, w, R, ?_⟩
  unfold sSeq at h
  cases e : f r w with
  | nx r1 w1 =>
    rw [e] at h
    exact fun ow1 σ1 H1 R1 => ⟨P, ow1, r1, w1, R1, h⟩
  | rt d w1 => rw [e] at h; exact h
  | bk r1 w1 => rw [e] at h; exact h
  | ct r1 w1 => rw [e] at h; exact h
  | ex n x w1 => rw [e] at h; exact h
  | bad => rw [e] at h; exact h
theorem red_pass (h : tS C sPass D σ H) : tNext D σ H := by
  obtain ⟨P, ow, r, w, R, h⟩ := h
  exact h ow σ H R
theorem red_break (h : tS C sBreak D σ H) : tBreak D σ H := by
  obtain ⟨P, ow, r, w, R, h⟩ := h
  exact h ow σ H R
theorem red_cont (h : tS C sCont D σ H) : tCont D σ H := by
  obtain ⟨P, ow, r, w, R, h⟩ := h
  exact h ow σ H R
theorem red_ret {f : EM} (h : tS C (sRet f) D σ H) : tRet (tD C f) D σ H := by
  obtain ⟨P, ow, r, w, R, h⟩ := h
  refine ⟨P, ow, r, w, R, gE.bindS h fun d w1 v H1 _ k1 R1 p1 h1 => ?_⟩
  exact h1 v H1 R1.keep R1.st (p1.weak fun b z => .inl z)
theorem red_retN (h : tS C sRetN D σ H) : tRetN D σ H := by
  obtain ⟨P, ow, r, w, R, h⟩ := h
  exact h .non H R.keep R.st .non
theorem red_drop {f : EM} (h : tS C (sDrop f) D σ H) : tDrop (tD C f) D σ H := by
  obtain ⟨P, ow, r, w, R, h⟩ := h
  refine ⟨P, ow, r, w, R, gE.bindS h fun d w1 v H1 _ k1 R1 p1 h1 => ?_⟩
  exact h1 _ _ _ R1
theorem red_asg {p : Pat} {f : EM} (h : tS C (sAsg p f) D σ H) : tAsg (tD C f) (tP C p) D σ H := by
  obtain ⟨P, ow, r, w, R, h⟩ := h
  refine ⟨P, ow, r, w, R, gE.bindS h fun d w1 v H1 _ k1 R1 p1 h1 => ?_⟩
  cases e : setP p d r with
  | none => rw [e] at h1; exact h1.elim
  | some r1 =>
    rw [e] at h1
    exact ⟨P, ow, r, w1, d, r1, R1, p1, e, fun σ' ow' R' _ _ => h1 _ _ _ R'⟩
theorem red_set {i : Nat} {f : EM} (h : tS C (sSet i f) D σ H) : tAsg (tD C f) (gName i) D σ H := by
  obtain ⟨P, ow, r, w, R, h⟩ := h
  refine ⟨P, ow, r, w, R, gE.bindS h fun d w1 v H1 _ k1 R1 p1 h1 => ?_⟩
  exact h1 _ _ _ (R1.setVal i p1)
theorem red_own {i : Nat} {f : IM} (h : tS C (sOwn i f) D σ H) : tAsg (tLst (tL C f)) (gName i) D σ H := by
  obtain ⟨P, ow, r, w, R, h⟩ := h
  refine ⟨P, ow, r, w, R, gE.bindS h fun ds w1 vs H1 _ k1 R1 p1 h1 => ?_⟩
  by_cases hl : ds.length ≤ szL
  · rw [if_pos hl] at h1
    exact ⟨by rw [DoAll.length p1]; exact Nat.le_trans hl szL_le, fun p hp => h1 _ _ _ (R1.setOwn i hp p1)⟩
  · rw [if_neg hl] at h1; exact h1.elim
theorem red_ifS {t : TM} {f g : SM} (h : tS C (sIf t f g) D σ H) : tIfS (tT C t) (tS C f) (tS C g) D σ H := by
  obtain ⟨P, ow, r, w, R, h⟩ := h
  refine ⟨P, ow, r, w, R, gE.bindS h fun b w1 b' H1 _ k1 R1 p1 h1 => ?_⟩
  have e : b = b' := p1
  subst e
  cases b with
  | true => exact ⟨P, ow, r, w1, R1, h1⟩
  | false => exact ⟨P, ow, r, w1, R1, h1⟩
theorem red_frz {i : Nat} {f : SM} (h : tS C (sFrz i f) D σ H) : tS C f D σ H := by
  obtain ⟨P, ow, r, w, R, h⟩ := h
  obtain ⟨ow', R'⟩ := R.frz i
  exact ⟨P, ow', _, w, R', h⟩
theorem red_app {i : Nat} {f : EM} (h : tS C (sApp i f) D σ H) : tDrop (tBM C.K "list" rAppend (tVar i) (tCons (tD C f) tNil)) D σ H := by
  obtain ⟨P, ow, r, w, R, h⟩ := h
  unfold sApp at h
  cases e : r[i]? with
  | none => rw [e] at h; exact h.elim
  | some sv =>
    rw [e] at h
    cases sv with
    | own ds =>
      obtain ⟨v, e2, a, xs, ea, ev, hx, hd⟩ := R.slot i _ e
      subst ev
      refine ⟨.ref a, e2, .inl ⟨rfl, xs, SqL.of hx⟩, P, ow, r, w, R, gE.bindS h fun d w1 y H1 _ k1 R1 p1 h1 => ?_⟩
      by_cases hl : ds.length < szL
      · rw [if_pos hl] at h1
        obtain ⟨v1, e3, a1, xs1, ea1, ev1, hx1, hd1⟩ := R1.slot i _ e
        rw [ea] at ea1
        cases ea1
        exact ⟨a, xs1, y, rfl, rfl, hx1, by rw [hd1.length]; exact Nat.lt_of_lt_of_le hl szL_le, h1 _ _ _ (R1.turn e ea (hd1.append (.cons p1 .nil)))⟩
      · rw [if_neg hl] at h1; exact h1.elim
    | un => exact h.elim
    | val _ => exact h.elim
    | st => exact h.elim
    | fn _ => exact h.elim
    | lam => exact h.elim
end
section
variable {X : Cx} {c : Cn} {W : XW} {pos : Pos} {st : Stmt} {rest : List Stmt} {e : Expr} {f g : SM} {fe : EM} {t : TM}
theorem ssNil : PSs X [] (tS (dc X c W) sPass) := PSs.imp pss_nil fun _ _ _ => red_pass
theorem ssCons (h1 : PS X st (tS (dc X c W) f)) (h2 : PSs X rest (tS (dc X c W) g)) : PSs X (st :: rest) (tS (dc X c W) (sSeq f g)) := PSs.imp (pss_cons h1 h2) fun _ _ _ => red_seq
theorem ssOne (h1 : PS X st (tS (dc X c W) f)) : PSs X [st] (tS (dc X c W) f) := pss_one h1
theorem ssFrz (i : Nat) (h : PSs X rest (tS (dc X c W) f)) : PSs X rest (tS (dc X c W) (sFrz i f)) := PSs.imp h fun _ _ _ => red_frz
theorem stPass : PS X (.Pass pos) (tS (dc X c W) sPass) := PS.imp ps_pass fun _ _ _ => red_pass
theorem stBreak : PS X (.Break pos) (tS (dc X c W) sBreak) := PS.imp ps_break fun _ _ _ => red_break
theorem stCont : PS X (.Continue pos) (tS (dc X c W) sCont) := PS.imp ps_continue fun _ _ _ => red_cont
theorem stRet (he : PE X e (tD (dc X c W) fe)) : PS X (.Return (some e) pos) (tS (dc X c W) (sRet fe)) := PS.imp (ps_ret he) fun _ _ _ => red_ret
theorem stRetN : PS X (.Return none pos) (tS (dc X c W) sRetN) := PS.imp ps_retN fun _ _ _ => red_retN
theorem stDrop (he : PE X e (tD (dc X c W) fe)) (hs : swapsWith e none pos.line X.env = pure false := by rfl) : PS X (.Expr e pos) (tS (dc X c W) (sDrop fe)) := PS.imp (ps_expr he hs) fun _ _ _ => red_drop
theorem stAsg {tg : Expr} {p : Pat} (he : PE X e (tD (dc X c W) fe)) (hg : PG X tg (tP (dc X c W) p)) (hs : swapsWithSole [tg] e pos.line X.env = pure false := by rfl) (hw : swappedStores [tg] e X.env = pure none := by rfl)
    (h1 : (assignEach [tg] X.env).map (·.2) = [assign tg X.env] := by rfl) : PS X (.Assign [tg] e pos) (tS (dc X c W) (sAsg p fe)) := PS.imp (ps_asg he hg hs hw h1) fun _ _ _ => red_asg
theorem stSet (i : Nat) {x : Str} {p' : Pos} (hN : X.N.Nodup) (hi : X.N[i]? = some x) (hx : Loc X.env.scope x) (he : PE X e (tD (dc X c W) fe)) (hs : swapsWith e (some (.Name x p')) pos.line X.env = pure false := by rfl) (hf : X.fn x = true ∨ X.env.scope.names.lookup x = some .local := by first | exact .inl rfl | exact .inr rfl | assumption) :
    PS X (.Assign [.Name x p'] e pos) (tS (dc X c W) (sSet i fe)) := PS.imp (ps_set hN hi hx he hs hf) fun _ _ _ => red_set
theorem stOwn (i : Nat) {x : Str} {p' : Pos} {fl : IM} (hN : X.N.Nodup) (hi : X.N[i]? = some x) (hx : Loc X.env.scope x) (he : PE X e (tLst (tL (dc X c W) fl))) (hs : swapsWith e (some (.Name x p')) pos.line X.env = pure false := by rfl) (hf : X.fn x = true ∨ X.env.scope.names.lookup x = some .local := by first | exact .inl rfl | exact .inr rfl | assumption) :
    PS X (.Assign [.Name x p'] e pos) (tS (dc X c W) (sOwn i fl)) := PS.imp (ps_set hN hi hx he hs hf) fun _ _ _ => red_own
theorem stIf {tc : Expr} {a b : List Stmt} (ht : PT X tc (tT (dc X c W) t)) (ha : PSs X a (tS (dc X c W) f)) (hb : PSs X b (tS (dc X c W) g)) : PS X (.If tc a b pos) (tS (dc X c W) (sIf t f g)) := PS.imp (ps_if ht ha hb) fun _ _ _ => red_ifS
theorem stApp (i : Nat) {x : Str} {p1 apos cpos : Pos} (hv : PE X (.Name x p1) (tVar i)) (he : PE X e (tD (dc X c W) fe)) (hs : swapsWith (.Call (.Attribute (.Name x p1) "append" apos) [e] [] cpos) none pos.line X.env = pure false := by rfl)
    (hbase : attributeBase (.Name x p1) "append" X.env (eval (.Name x p1) X.env) = eval (.Name x p1) X.env := by rfl)
    (hfew : ((backTo cpos (starEach (e :: []) X.env)).all (fun x => !x.1) && (backToKw cpos (keywordEach [] X.env)).all (fun x => x.1.isSome)
      && decide ((e :: []).length + ([] : List Keyword).length + (if ([] : List Keyword).isEmpty then 0 else 1) < 30)) = true := by rfl)
    (hline : (apos.endLine == cpos.line) = true := by rfl) (hs2 : starEach (e :: []) X.env = (false, eval e X.env) :: starEach [] X.env := by rfl) (hplain : (backTo cpos (starEach [] X.env)).any (·.1) = false := by rfl) :
    PS X (.Expr (.Call (.Attribute (.Name x p1) "append" apos) [e] [] cpos) pos) (tS (dc X c W) (sApp i fe)) :=
  PS.imp (ps_expr (pe_bm PySem.F.plainAttrs_list PySem.F.slot_list_append PySem.F.type_list_append mt_append hv (pa_cons he pa_nil hs2) hbase hfew hline hs2 hplain) hs) fun _ _ _ => red_app
end
end DL

namespace DL
open L2 PySem PySem.Spec PyProof.Rows
/-! ## what is walked -/
/-- an iterator whose turns give the items, while what P pins stands -/
abbrev WalkD (K : PySem.W.Frag) (J : It) (P : List (V × PyData)) (ds : List PyData) : Prop :=
  Walk J ds.length (fun H => ∃ O, Pinned K H O P) (fun i H x H' => ∀ O, (∀ b, O b → ∃ o, H b = some o) → Pinned K H O P → Same H H' ∧ ∃ d, ds[i]? = some d ∧ Do K H' O x d)
section
variable {K : PySem.W.Frag}
theorem walkL {a : Addr} {ds : List PyData} : WalkD K (Itl K a) [(.ref a, .list ds)] ds where
  goes := fun i H hi ⟨O, h⟩ => by
    cases h _ (List.mem_singleton.mpr rfl) with
    | lst hx _ hd =>
      obtain ⟨v, e, _⟩ := hd.get (List.getElem?_eq_getElem hi)
      exact ⟨_, v, SqL.of hx, e⟩
  stops := fun H ⟨O, h⟩ => by
    cases h _ (List.mem_singleton.mpr rfl) with
    | lst hx _ hd => exact ⟨_, SqL.of hx, Nat.le_of_eq hd.length⟩
  yields := fun i H x H' hi _ y O _ h => by
    obtain ⟨rfl, y⟩ := y
    cases h _ (List.mem_singleton.mpr rfl) with
    | lst hx _ hd =>
      obtain ⟨d, e, p⟩ := hd.getV (y _ (SqL.of hx))
      exact ⟨Same.refl _, d, e, p⟩
theorem walkT {a : Addr} {ds : List PyData} : WalkD K (Itt K a) [(.ref a, .tuple ds)] ds where
  goes := fun i H hi ⟨O, h⟩ => by
    cases h _ (List.mem_singleton.mpr rfl) with
    | tup hx _ hd =>
      obtain ⟨v, e, _⟩ := hd.get (List.getElem?_eq_getElem hi)
      exact ⟨_, v, hx, e⟩
  stops := fun H ⟨O, h⟩ => by
    cases h _ (List.mem_singleton.mpr rfl) with
    | tup hx _ hd => exact ⟨_, hx, Nat.le_of_eq hd.length⟩
  yields := fun i H x H' hi _ y O _ h => by
    obtain ⟨rfl, y⟩ := y
    cases h _ (List.mem_singleton.mpr rfl) with
    | tup hx _ hd =>
      obtain ⟨d, e, p⟩ := hd.getV (y _ hx)
      exact ⟨Same.refl _, d, e, p⟩
def rgD (lo : Int) (n : Nat) : List PyData := (List.range n).map fun (i : Nat) => .int (lo + i)
theorem rgD_len {lo : Int} {n : Nat} : (rgD lo n).length = n := by unfold rgD; rw [List.length_map, List.length_range]
theorem rgD_get {lo : Int} {n i : Nat} (h : i < n) : (rgD lo n)[i]? = some (.int (lo + i)) := by
  unfold rgD
  rw [List.getElem?_map, List.getElem?_range h]
  rfl
theorem walkR {lo : Int} {n : Nat} : WalkD K (Itr lo n) [] (rgD lo n) where
  goes := fun i H hi _ => by rw [rgD_len] at hi; exact hi
  stops := fun H _ => Nat.le_of_eq rgD_len.symm
  yields := fun i H x H' hi _ y O _ _ => by
    obtain ⟨rfl, rfl⟩ := y
    rw [rgD_len] at hi
    exact ⟨Same.refl _, _, rgD_get hi, .int _⟩
/-- numbered -/
def enD : Nat → List PyData → List PyData
  | _, [] => []
  | k, d :: ds => .tuple [.int (k : Int), d] :: enD (k + 1) ds
theorem enD_len : ∀ (k : Nat) (ds : List PyData), (enD k ds).length = ds.length
  | _, [] => rfl
  | k, _ :: ds => by unfold enD; rw [List.length_cons, List.length_cons, enD_len (k + 1) ds]
theorem enD_get : ∀ (k : Nat) (ds : List PyData) (i : Nat) (d : PyData), ds[i]? = some d → (enD k ds)[i]? = some (.tuple [.int ((k + i : Nat) : Int), d])
  | _, [], i, d, h => by simp at h
  | k, x :: ds, 0, d, h => by
    have e : x = d := Option.some.inj h
    unfold enD
    rw [e]
    rfl
  | k, x :: ds, i + 1, d, h => by
    unfold enD
    have q := enD_get (k + 1) ds i d (by simpa using h)
    rw [show k + 1 + i = k + (i + 1) by omega] at q
    exact q
theorem pairD {H : Hp} {O : Addr → Prop} {T : Addr} {x y : V} {d e : PyData} (hT : H T = none) (h1 : Do K H O x d) (h2 : Do K H O y e) : Do K (upd H T (.tup [x, y])) O (.ref T) (.tuple [d, e]) :=
  .tupN upd_same (.cons (h1.keep (.new (M := fun _ => False) hT) fun _ z => z.elim) (.cons (h2.keep (.new (M := fun _ => False) hT) fun _ z => z.elim) .nil))
theorem walkEL {a : Addr} {ds : List PyData} : WalkD K (Ite K a) [(.ref a, .list ds)] (enD 0 ds) where
  goes := fun i H hi ⟨O, h⟩ => by
    rw [enD_len] at hi
    cases h _ (List.mem_singleton.mpr rfl) with
    | lst hx _ hd =>
      obtain ⟨v, e, _⟩ := hd.get (List.getElem?_eq_getElem hi)
      exact ⟨_, v, SqL.of hx, e⟩
  stops := fun H ⟨O, h⟩ => by
    cases h _ (List.mem_singleton.mpr rfl) with
    | lst hx _ hd => exact ⟨_, SqL.of hx, by rw [enD_len]; exact Nat.le_of_eq hd.length⟩
  yields := fun i H v H' hi _ y O _ h => by
    obtain ⟨T, x, rfl, hT, rfl, y⟩ := y
    cases h _ (List.mem_singleton.mpr rfl) with
    | lst hx _ hd =>
      obtain ⟨d, e, p⟩ := hd.getV (y _ (SqL.of hx))
      refine ⟨same_new hT, _, enD_get 0 ds i d e, ?_⟩
      rw [Nat.zero_add]
      exact pairD hT (.int _) p
/-- enumerate(tuple) -/
def IteT (K : PySem.W.Frag) (a : Addr) : It :=
  ⟨fun i H => ∃ (xs : List V) (x : V), SqT K H a xs ∧ xs[i]? = some x, fun i H v H' => ∃ T x, v = .ref T ∧ H T = none ∧ H' = upd H T (.tup [.int (i : Nat), x]) ∧ ∀ xs, SqT K H a xs → xs[i]? = some x, fun i H => ∃ xs : List V, SqT K H a xs ∧ xs.length = i⟩
theorem walkET {a : Addr} {ds : List PyData} : WalkD K (IteT K a) [(.ref a, .tuple ds)] (enD 0 ds) where
  goes := fun i H hi ⟨O, h⟩ => by
    rw [enD_len] at hi
    cases h _ (List.mem_singleton.mpr rfl) with
    | tup hx _ hd =>
      obtain ⟨v, e, _⟩ := hd.get (List.getElem?_eq_getElem hi)
      exact ⟨_, v, hx, e⟩
  stops := fun H ⟨O, h⟩ => by
    cases h _ (List.mem_singleton.mpr rfl) with
    | tup hx _ hd => exact ⟨_, hx, by rw [enD_len]; exact hd.length⟩
  yields := fun i H v H' hi _ y O _ h => by
    obtain ⟨T, x, rfl, hT, rfl, y⟩ := y
    cases h _ (List.mem_singleton.mpr rfl) with
    | tup hx _ hd =>
      obtain ⟨d, e, p⟩ := hd.getV (y _ hx)
      refine ⟨same_new hT, _, enD_get 0 ds i d e, ?_⟩
      rw [Nat.zero_add]
      exact pairD hT (.int _) p
end
/-! ## readings of what is walked -/
abbrev JP := It × List (V × PyData)
def fI (C : Dc) : (Nat → Option Addr) → List PyData → JP → Hp → Prop := fun ow ds jp H => Pinned C.K H (Ow C.c.O0 ow) jp.2 ∧ WalkD C.K jp.1 jp.2 ds
def tI (C : Dc) (f : IM) : TI := fun σ H R => ∃ P ow r w, C.Rl P ow r w σ H ∧ gE C (fI C) (f r w) P ow r σ H fun jp H1 => R jp.1 H1
def itSeq (f : EM) : IM := fun r w => (f r w).bind fun d w1 =>
  match d with
  | .list ds => .ok ds w1
  | .tuple ds => .ok ds w1
  | _ => .bad
def itRg1 (f : EM) : IM := fun r w => (f r w).bind fun d w1 =>
  match d with
  | .int n => if -16777216 ≤ n ∧ n ≤ 16777216 then .ok (rgD 0 n.toNat) w1 else .bad
  | _ => .bad
def itRg2 (f g : EM) : IM := fun r w => (f r w).bind fun d w1 => (g r w1).bind fun e w2 =>
  match d, e with
  | .int a, .int b => if (-16777216 ≤ a ∧ a ≤ 16777216) ∧ -16777216 ≤ b ∧ b ≤ 16777216 then .ok (rgD a (b - a).toNat) w2 else .bad
  | _, _ => .bad
def itEn (f : EM) : IM := fun r w => (f r w).bind fun d w1 =>
  match d with
  | .list ds => .ok (enD 0 ds) w1
  | .tuple ds => .ok (enD 0 ds) w1
  | _ => .bad
section
variable {C : Dc} {σ : L2.St} {H : Hp} {R : It → Hp → Prop}
theorem pin1 {K : PySem.W.Frag} {O : Addr → Prop} {v : V} {d : PyData} (h : Do K H O v d) : Pinned K H O [(v, d)] := fun p hp => by
  rw [List.mem_singleton.mp hp]; exact h
/-- by kind: what the expression gives is a list, or it is a tuple -/
theorem red_itSeq {f : EM} (h : tI C (itSeq f) σ H R) : tD C f σ H fun x H1 => ∃ a, x = .ref a ∧ (((∃ xs, SqL C.K H1 a xs) ∧ R (Itl C.K a) H1) ∨ ((∃ xs, SqT C.K H1 a xs) ∧ R (Itt C.K a) H1)) := by
  obtain ⟨P, ow, r, w, Rr, h⟩ := h
  refine ⟨P, ow, r, w, Rr, gE.bind h fun d w1 v H1 _ k1 R1 p1 h1 => ?_⟩
  cases d with
  | list ds =>
    cases id p1 with
    | @lst a xs _ hx n hd => exact ⟨a, rfl, .inl ⟨⟨xs, SqL.of hx⟩, h1 (Itl C.K a, _) H1 .refl R1 ⟨pin1 p1, walkL⟩⟩⟩
  | tuple ds =>
    cases id p1 with
    | @tup a xs _ hx _ hd => exact ⟨a, rfl, .inr ⟨⟨xs, hx⟩, h1 (Itt C.K a, _) H1 .refl R1 ⟨pin1 p1, walkT⟩⟩⟩
  | none => exact h1.elim
  | bool _ => exact h1.elim
  | int _ => exact h1.elim
  | str _ => exact h1.elim
  | dict _ => exact h1.elim
theorem red_rg1 {f : EM} (h : tI C (itRg1 f) σ H R) : iRng1 (tCons (tD C f) tNil) σ H R := by
  obtain ⟨P, ow, r, w, Rr, h⟩ := h
  refine ⟨P, ow, r, w, Rr, gE.bind h fun d w1 v H1 _ k1 R1 p1 h1 => ?_⟩
  cases d with
  | int n =>
    cases p1
    by_cases hn : -16777216 ≤ n ∧ n ≤ 16777216
    · have h2 : gE C (fI C) (if -16777216 ≤ n ∧ n ≤ 16777216 then .ok (rgD 0 n.toNat) w1 else .bad) P ow r σ H1 _ := h1
      rw [if_pos hn] at h2
      exact ⟨n, rfl, by omega, by omega, h2 (Itr 0 n.toNat, []) H1 .refl R1 ⟨(fun p hp => absurd hp (by simp)), walkR⟩⟩
    · have h2 : gE C (fI C) (if -16777216 ≤ n ∧ n ≤ 16777216 then .ok (rgD 0 n.toNat) w1 else .bad) P ow r σ H1 _ := h1
      rw [if_neg hn] at h2
      exact h2.elim
  | none => exact h1.elim
  | bool _ => exact h1.elim
  | list _ => exact h1.elim
  | tuple _ => exact h1.elim
  | str _ => exact h1.elim
  | dict _ => exact h1.elim
theorem red_rg2 {f g : EM} (h : tI C (itRg2 f g) σ H R) : iRng2 (tCons (tD C f) (tCons (tD C g) tNil)) σ H R := by
  obtain ⟨P, ow, r, w, Rr, h⟩ := h
  refine ⟨P, ow, r, w, Rr, gE.bind h fun d w1 v H1 _ k1 R1 p1 h1 => ?_⟩
  refine ⟨P, ow, r, w1, R1, gE.bind h1 fun e w2 u H2 _ k2 R2 p2 h2 => ?_⟩
  cases d with
  | int a =>
    cases e with
    | int b =>
      cases p1
      cases p2
      have h3 : gE C (fI C) (if (-16777216 ≤ a ∧ a ≤ 16777216) ∧ -16777216 ≤ b ∧ b ≤ 16777216 then .ok (rgD a (b - a).toNat) w2 else .bad) P ow r σ H2 (fun jp H1 => R jp.1 H1) := h2
      by_cases hn : (-16777216 ≤ a ∧ a ≤ 16777216) ∧ -16777216 ≤ b ∧ b ≤ 16777216
      · rw [if_pos hn] at h3
        exact ⟨a, b, rfl, ⟨by omega, by omega, by omega, by omega⟩, h3 (Itr a (b - a).toNat, []) H2 .refl R2 ⟨(fun p hp => absurd hp (by simp)), walkR⟩⟩
      · rw [if_neg hn] at h3
        exact h3.elim
    | _ => exact h2.elim
  | _ => cases e <;> exact h2.elim
theorem red_itEn {f : EM} (h : tI C (itEn f) σ H R) : tD C f σ H fun x H1 => ∃ a, x = .ref a ∧ (((∃ xs, SqL C.K H1 a xs) ∧ R (Ite C.K a) H1) ∨ ((∃ xs, SqT C.K H1 a xs) ∧ R (IteT C.K a) H1)) := by
  obtain ⟨P, ow, r, w, Rr, h⟩ := h
  refine ⟨P, ow, r, w, Rr, gE.bind h fun d w1 v H1 _ k1 R1 p1 h1 => ?_⟩
  cases d with
  | list ds =>
    cases id p1 with
    | @lst a xs _ hx n hd => exact ⟨a, rfl, .inl ⟨⟨xs, SqL.of hx⟩, h1 (Ite C.K a, _) H1 .refl R1 ⟨pin1 p1, walkEL⟩⟩⟩
  | tuple ds =>
    cases id p1 with
    | @tup a xs _ hx _ hd => exact ⟨a, rfl, .inr ⟨⟨xs, hx⟩, h1 (IteT C.K a, _) H1 .refl R1 ⟨pin1 p1, walkET⟩⟩⟩
  | none => exact h1.elim
  | bool _ => exact h1.elim
  | int _ => exact h1.elim
  | str _ => exact h1.elim
  | dict _ => exact h1.elim
end
/-! ## for -/
def forL (p : Pat) (body : SM) : List PyData → List SV → DS → RS
  | [], r, w => .nx r w
  | d :: ds, r, w =>
    match setP p d r with
    | none => .bad
    | some r1 =>
      match body r1 w with
      | .nx r2 w2 => forL p body ds r2 w2
      | .ct r2 w2 => forL p body ds r2 w2
      | .bk r2 w2 => .nx r2 w2
      | .rt d w2 => .rt d w2
      | .ex n x w2 => .ex n x w2
      | .bad => .bad
def sFor (p : Pat) (fi : IM) (body : SM) : SM := fun r w => (fi r w).bindS fun ds w1 => forL p body ds r w1
section
variable {C : Dc} {D : Ends} {σ : L2.St} {H : Hp}
theorem red_for {p : Pat} {fi : IM} {body : SM} (h : tS C (sFor p fi body) D σ H) : tFor (tI C fi) (tP C p) (tS C body) D σ H := by
  obtain ⟨P, ow, r, w, R, h⟩ := h
  refine ⟨P, ow, r, w, R, gE.bindS h fun ds w1 jp H1 _ k1 R1 p1 h1 => ?_⟩
  obtain ⟨hp, wk⟩ := p1
  refine for_it wk (fun i σ H => ∃ ow r w, C.Rl (jp.2 ++ P) ow r w σ H ∧ gS C (forL p body (ds.drop i) r w) P D) ⟨ow, r, w1, R1.pinned hp, by rw [List.drop_zero]; exact h1⟩
    (fun i σ H _ ⟨ow, r, w, R, _⟩ => ⟨_, fun q hq => R.pin q (List.mem_append_left _ hq)⟩) (fun i x σ H H' hi hPv y => ?_) (fun σ H hPv => ?_)
  · obtain ⟨ow, r, w, R, g⟩ := hPv
    obtain ⟨sm, d, ed, pd⟩ := y _ R.dom' fun q hq => R.pin q (List.mem_append_left _ hq)
    have R' := (step_same R sm).2
    have ecs : ds.drop i = d :: ds.drop (i + 1) := by
      rw [← List.getElem_cons_drop hi]
      have : ds[i] = d := by
        rw [List.getElem?_eq_getElem hi] at ed
        exact Option.some.inj ed
      rw [this]
    rw [ecs] at g
    unfold forL at g
    cases e : setP p d r with
    | none => rw [e] at g; exact g.elim
    | some r1 =>
      rw [e] at g
      refine ⟨_, ow, r, w, d, r1, R', pd, e, fun σ2 ow2 R2 _ _ => ⟨_, ow2, r1, w, R2, ?_⟩⟩
      have g2 : gS C (match body r1 w with
        | .nx r2 w2 => forL p body (ds.drop (i + 1)) r2 w2
        | .ct r2 w2 => forL p body (ds.drop (i + 1)) r2 w2
        | .bk r2 w2 => .nx r2 w2
        | .rt d w2 => .rt d w2
        | .ex n x w2 => .ex n x w2
        | .bad => .bad) P D := g
      cases eb : body r1 w with
      | nx r2 w2 => rw [eb] at g2; exact fun ow3 σ3 H3 R3 => ⟨ow3, r2, w2, R3, g2⟩
      | ct r2 w2 => rw [eb] at g2; exact fun ow3 σ3 H3 R3 => ⟨ow3, r2, w2, R3, g2⟩
      | bk r2 w2 => rw [eb] at g2; exact fun ow3 σ3 H3 R3 => g2 ow3 σ3 H3 (R3.unpin fun q hq => List.mem_append_right _ hq)
      | rt d w2 => rw [eb] at g2; exact g2
      | ex n x w2 => rw [eb] at g2; exact fun ow3 r3 σ3 H3 R3 => g2 ow3 r3 σ3 H3 (R3.unpin fun q hq => List.mem_append_right _ hq)
      | bad => rw [eb] at g2; exact g2
  · obtain ⟨ow, r, w, R, g⟩ := hPv
    rw [List.drop_length] at g
    exact g ow σ H (R.unpin fun q hq => List.mem_append_right _ hq)
end
/-! ## the rules as terms -/
section
variable {X : Cx} {c : Cn} {W : XW} {tg e : Expr} {f g : EM} {pos : Pos}
theorem PI.imp {t t' : TI} (h : PI X tg e t) (hi : ∀ σ H R, t' σ H R → t σ H R) : PI X tg e t' := ⟨fun pins s σ H R I q => h.run pins s σ H R I (hi σ H R q)⟩
theorem pi_seq {te : TE} (he : PE X e te) : PI X tg e (fun σ H R => te σ H fun x H1 => ∃ a, x = .ref a ∧ (((∃ xs, SqL X.K H1 a xs) ∧ R (Itl X.K a) H1) ∨ ((∃ xs, SqT X.K H1 a xs) ∧ R (Itt X.K a) H1))) := by
  refine ⟨fun pins s σ H R I h => thn (he.run pins s σ H _ I h) fun v s1 ⟨x, H1, I1, r1, q1⟩ => ?_⟩
  obtain ⟨a, rfl, q1⟩ := q1
  cases r1
  have fp : ∀ b ∈ [s1.heap.objs.size], FpOk X pins H1 b := fun b hb => by
    rw [List.mem_singleton.mp hb]
    exact I1.fpOk (Nat.le_refl _) (I1.hok.fresh (Nat.le_refl _))
  rcases q1 with ⟨⟨xs, hq⟩, q⟩ | ⟨⟨xs, hq⟩, q⟩
  · obtain ⟨its, rv, p, hz⟩ := I1.list hq
    exact wpAny_pyIter_list p.isList ⟨s1.heap.objs.size, [s1.heap.objs.size], _, _, H1, rfl, I1.kept (t' := s1.toks) (fun b o z => Heap.get?_push_of_some _ z), turn_list a _, ⟨_, Heap.get?_push_size _ rfl, rfl, rfl⟩, fp, q⟩
  · obtain ⟨its, rv, p, hz⟩ := I1.tuple hq
    exact wpAny_pyIter_tuple (show s1.heap.IsTuple a its.toArray from p) ⟨s1.heap.objs.size, [s1.heap.objs.size], _, _, H1, rfl, I1.kept (t' := s1.toks) (fun b o z => Heap.get?_push_of_some _ z), turn_tuple a _, ⟨_, Heap.get?_push_size _ rfl, rfl, rfl⟩, fp, q⟩
theorem iSeq (he : PE X e (tD (dc X c W) f)) : PI X tg e (tI (dc X c W) (itSeq f)) := PI.imp (pi_seq he) fun _ _ _ => red_itSeq
theorem iRg1 {a : Expr} {p : Pos} (hg : Gl X "range") (hm : X.mg "range" = none) (ha : PE X a (tD (dc X c W) f)) (hs : starEach [a] X.env = [(false, eval a X.env)] := by rfl) (hs' : starEach [a] X.env = (false, eval a X.env) :: starEach [] X.env := by rfl) :
    PI X tg (.Call (.Name "range" p) [a] [] pos) (tI (dc X c W) (itRg1 f)) := PI.imp (pi_range1 hg hm (pa_cons ha pa_nil hs') hs) fun _ _ _ => red_rg1
theorem iRg2 {a b : Expr} {p : Pos} (hg : Gl X "range") (hm : X.mg "range" = none) (ha : PE X a (tD (dc X c W) f)) (hb : PE X b (tD (dc X c W) g)) (hs : starEach [a, b] X.env = [(false, eval a X.env), (false, eval b X.env)] := by rfl) (hs2 : starEach [b] X.env = [(false, eval b X.env)] := by rfl)
    (hs3 : starEach [a, b] X.env = (false, eval a X.env) :: starEach [b] X.env := by rfl) (hs4 : starEach [b] X.env = (false, eval b X.env) :: starEach [] X.env := by rfl) :
    PI X tg (.Call (.Name "range" p) [a, b] [] pos) (tI (dc X c W) (itRg2 f g)) := PI.imp (pi_range2 hg hm (pa_cons ha (pa_cons hb pa_nil hs4) hs3) hs hs2) fun _ _ _ => red_rg2
theorem stFor {iter : Expr} {body : List Stmt} {fi : IM} {p : Pat} {fb : SM} (hp : PassesOwn (model X.prog X.w) X.A X.env X.xe) (hc : X.calm = true) (hi : PI X tg iter (tI (dc X c W) fi)) (hg : PG X tg (tP (dc X c W) p)) (hb : PSs X body (tS (dc X c W) fb))
    (hs : ∀ x, foldedSetIterable iter X.env x = pure x := by intro _; rfl) : PS X (.For tg iter body [] pos) (tS (dc X c W) (sFor p fi fb)) := PS.imp (ps_for hp hc hi hg hb hs) fun _ _ _ => red_for
end
end DL

namespace DL
open L2 PySem PySem.Spec PyProof.Rows
/-! ## enumerate(list or tuple) -/
section
open Sem (wp)
theorem enum_of_begun {v : Value} {o : Obj} {Hs : Heap → Prop} (B : Begins v o Hs) :
    Meets (Builtin.«enumerate.__new__» ⟨[.type "enumerate", v], []⟩) (fun _ R s => Hs s.heap ∧ R (.ok (.ret (.ref (s.heap.push o).objs.size))) { s with heap := (s.heap.push o).push { cls := .type "enumerate", data := .fields #[.none, .bool false, .ref s.heap.objs.size, rawInt 0, .none, .none] } }) :=
  .of_wp fun prog w A R s hh => by
    obtain ⟨hp, g, d, tk, os⟩ := s
    obtain ⟨hb, hR⟩ := hh
    have hsubE := sub_enumerate
    have goes : ∀ {A1 : Around} {E1 : Value → Shared → Prop} {Q1 : Value → Shared → Prop}, Q1 (.ref hp.objs.size) ⟨hp.push o, g, d, tk, os⟩ → wpAny (model prog w) A1 (pyIter v) Q1 E1 ⟨hp, g, d, tk, os⟩ :=
      fun q => B.iter prog w _ _ ⟨hp, g, d, tk, os⟩ _ hb q
    wp_walk using goes
    refine wpAny_stack_any fun _ => wpAny_pure ?_
    split
    · rename_i cz _ _ _ _ _
      cases (cz == Value.type "enumerate") <;> (wp_walk using goes; exact ⟨_, rfl, hR⟩)
    · wp_walk using goes; exact ⟨_, rfl, hR⟩
variable {prog : Program} {w : World} {A : Around} {E : Value → Shared → Prop} {s : Shared}
theorem enum_call {v : Value} {o : Obj} {Hs : Heap → Prop} {Q : Value → Shared → Prop} (B : Begins v o Hs) (hb : Hs s.heap)
    (hQ : ∀ h', IsEnum h' (s.heap.objs.size + 1) s.heap.objs.size 0 .none → h'.get? s.heap.objs.size = some o → (∀ b u, s.heap.get? b = some u → h'.get? b = some u) → Q (.ref (s.heap.objs.size + 1)) { s with heap := h' }) :
    wpAny (model prog w) A (call (.type "enumerate") [v]) Q E s := by
  refine callType_new F.called_enumerate (by decide) (F.typeCall_enumerate_1 _) (F.newCall_enumerate_1 _) (fun obj => F.args_object_init_2 obj _) F.entry_enumerate_new (enum_of_begun B) ⟨hb, ?_⟩
  have z1 : (s.heap.push o).objs.size = s.heap.objs.size + 1 := Heap.size_push ..
  show _ ∧ _
  rw [z1]
  have en : IsEnum ((s.heap.push o).push { cls := .type "enumerate", data := .fields #[.none, .bool false, .ref s.heap.objs.size, rawInt 0, .none, .none] }) (s.heap.objs.size + 1) s.heap.objs.size 0 .none := by
    have q := Heap.get?_push_size (s.heap.push o) (o := { cls := .type "enumerate", data := .fields #[.none, .bool false, .ref s.heap.objs.size, rawInt 0, .none, .none] }) rfl
    rw [z1] at q
    exact q
  exact ⟨⟨_, en, rfl⟩, hQ _ en (Heap.get?_push_of_some _ (Heap.get?_push_size _ B.free)) fun b u x => Heap.get?_push_of_some _ (Heap.get?_push_of_some _ x)⟩
end
theorem turn_enumT {P : Program} {w : World} {K : PySem.W.Frag} {elts : List Expr} {kk : Nat} {tpos : Pos} (a e it : Addr) :
    Turn P w K (.Tuple elts kk tpos) (IteT K a) [e, it] e (fun i h => (∃ old, IsEnum h e it ((i : Nat) : Int) old) ∧ h.IsTupleIter it a i ∧ e ≠ it ∧ a ≠ e ∧ a ≠ it) where
  mem := List.mem_cons_self ..
  obj := fun i h st b hb => by
    obtain ⟨⟨old, he⟩, ⟨o, ho, hc, hd⟩, _⟩ := st
    rcases List.mem_cons.mp hb with z | z
    · subst z; exact ⟨_, he, fun v q => nomatch q⟩
    · rw [List.mem_singleton.mp z]; exact ⟨o, ho, fun v q => by rw [hd] at q; cases q⟩
  keep := fun i h h' st k => by
    obtain ⟨⟨old, he⟩, hi, n⟩ := st
    exact ⟨⟨old, k e (List.mem_cons_self ..) _ he⟩, hi.at fun o q => k it (by simp) o q, n⟩
  item := by
    intro X hP hw hK hc i pins s σ H E I hf st hg
    subst hP hw hK
    obtain ⟨⟨old, he⟩, hit, hne, hae, hai⟩ := st
    obtain ⟨xs, x, hq, hx⟩ := hg
    obtain ⟨its, rv, pt, hz⟩ := I.tuple hq
    obtain ⟨u, hu, ru⟩ := rv.get hx
    have hel : e < s.heap.objs.size := Heap.lt_size he
    have hil : it < s.heap.objs.size := by
      obtain ⟨_, q, _⟩ := hit
      exact Heap.lt_size q
    have hlt : i < its.toArray.size := by
      have := (List.getElem?_eq_some_iff.mp hu).1
      simpa using this
    refine wpAny_pyNext_enum_itemC (Draws.tuple (A := X.A.in1) (I.ok.hd hc) it a hai its.toArray) he ⟨hit, pt⟩ hlt hne (by simp [hne, Ne.symm hae]) fun u' h' tk hP ho hst hT hsz hk => ?_
    have eu : u' = u := by
      have q : its[i]? = some u' := by simpa using hP
      rw [hu] at q
      exact (Option.some.inj q).symm
    subst eu
    refine ⟨_, rfl, wpAny_letOwnedTupleGo_enum (s := { s with heap := h', toks := tk + 1 }) ho fun h2 he2 sb => ?_⟩
    have hT2 : h2.get? s.heap.objs.size = some { cls := .type "tuple", data := .seq #[.int i tk, u'] } := (sb.2 _ (Nat.ne_of_gt hel)).trans hT
    have hnew : ObjOk X.prog X.w (upd H s.heap.objs.size (.tup [.int (i : Nat), x])) h2 s.heap.objs.size (.tup [.int (i : Nat), x]) :=
      ⟨by show 2 ≤ sizeLine; decide, [.int i tk, u'], .cons ⟨_, rfl⟩ (.cons ru .nil), ⟨_, hT2, rfl, _, rfl⟩⟩
    have I1 : Inv X pins σ (upd H s.heap.objs.size (.tup [.int (i : Nat), x])) { s with heap := h2, toks := tk + 1 } := by
      refine I.turnedNew (t' := tk + 1) (ch := [e, it]) (fun b ob hb q => ?_) hf (Nat.le_refl _) hnew
      have n1 : b ≠ e := fun z => hb (by simp [z])
      exact (sb.2 b n1).trans (hk b ob n1 (fun z => hb (by simp [z])) q)
    refine ⟨.ref s.heap.objs.size, _, I1, rfl, ⟨_, x, rfl, I.hok.fresh (Nat.le_refl _), rfl, fun ys hy => by rw [I.tuple_inj hy hq]; exact hx⟩, ⟨⟨u', ?_⟩, hst.1.at fun o q => (sb.2 it (Ne.symm hne)).trans q, hne, hae, hai⟩, fun b hb => ?_⟩
    · rw [show ((i + 1 : Nat) : Int) = (i : Int) + 1 by omega]
      exact he2
    · have hb2 : b < s.heap.objs.size := by
        rcases List.mem_cons.mp hb with z | z
        · rw [z]; exact hel
        · rw [List.mem_singleton.mp z]; exact hil
      rw [upd_ne (Nat.ne_of_lt hb2)]
      exact (hf b hb).1
  done := by
    intro X hP hw hK hc i pins s σ H E I hf st hg
    subst hP hw hK
    obtain ⟨⟨old, he⟩, hit, hne, hae, hai⟩ := st
    obtain ⟨xs, hq, hx⟩ := hg
    obtain ⟨its, rv, pt, hz⟩ := I.tuple hq
    obtain ⟨f0, f1, f2, f3, f4, f5⟩ := hf it (by simp)
    have hl : its.toArray.size = i := by rw [List.size_toArray, ← rv.length]; exact hx
    subst hl
    exact wpAny_pyNext_enum_endD (Draws.tuple (A := X.A.in1) (I.ok.hd hc) it a hai its.toArray) he ⟨hit, pt⟩ fun h' eb => ⟨rfl, I.turned (t' := s.toks) (fun b o hb q => eb b o hb q) f0 f1 f3 f4 f5⟩
  self := fun A i s Q E st h => let ⟨⟨_, he⟩, _⟩ := st; wpAny_pyIter_enum he h
/-- enumerate(x), x a list or a tuple -/
theorem pi_enumA {X : Cx} {e : Expr} {te : TE} {p pos tpos : Pos} {elts : List Expr} {kk : Nat} (hg : Gl X "enumerate") (hm : X.mg "enumerate" = none) (he : PE X e te) (hs : starEach [e] X.env = [(false, eval e X.env)] := by rfl) (hs' : starEach [e] X.env = (false, eval e X.env) :: starEach [] X.env := by rfl) :
    PI X (.Tuple elts kk tpos) (.Call (.Name "enumerate" p) [e] [] pos) (fun σ H R => te σ H fun x H1 => ∃ a, x = .ref a ∧ (((∃ xs, SqL X.K H1 a xs) ∧ R (Ite X.K a) H1) ∨ ((∃ xs, SqT X.K H1 a xs) ∧ R (IteT X.K a) H1))) := by
  refine ⟨fun pins s σ H R I h => ?_⟩
  have h' : tCons te tNil σ H fun vs H1 => match vs with
    | [x] => ∃ a, x = .ref a ∧ (((∃ xs, SqL X.K H1 a xs) ∧ R (Ite X.K a) H1) ∨ ((∃ xs, SqT X.K H1 a xs) ∧ R (IteT X.K a) H1))
    | _ => False := h
  refine Call_ (ld_blt I hg hm boot_enumerate (PyProof.Rows.callWith_type1 (thn ((pa_cons he pa_nil hs').run pos pins s σ H _ I h') fun us s1 ⟨vs, H1, I1, r1, q1⟩ => ?_) hs rfl))
  obtain ⟨x, rfl, q2⟩ : ∃ x, vs = [x] ∧ (∃ a, x = .ref a ∧ (((∃ xs, SqL X.K H1 a xs) ∧ R (Ite X.K a) H1) ∨ ((∃ xs, SqT X.K H1 a xs) ∧ R (IteT X.K a) H1))) := by
    cases vs with
    | nil => exact q1.elim
    | cons x r =>
      cases r with
      | nil => exact ⟨x, rfl, q1⟩
      | cons _ _ => exact q1.elim
  clear q1
  obtain ⟨a, rfl, q3⟩ := q2
  obtain ⟨u, rfl, ru⟩ := vals1 r1
  cases ru
  have hsz : ∀ b, b ∈ [s1.heap.objs.size + 1, s1.heap.objs.size] → s1.heap.objs.size ≤ b := fun b hb => by
    rcases List.mem_cons.mp hb with z | z
    · omega
    · rw [List.mem_singleton.mp z]; exact Nat.le_refl _
  have fp : ∀ b ∈ [s1.heap.objs.size + 1, s1.heap.objs.size], FpOk X pins H1 b := fun b hb => I1.fpOk (hsz b hb) (I1.hok.fresh (hsz b hb))
  rcases q3 with ⟨⟨xs, hq⟩, q⟩ | ⟨⟨xs, hq⟩, q⟩
  · obtain ⟨its, rv, pl, hz⟩ := I1.list hq
    refine call_enumerate_list pl.isList fun h2 hen hit _ hk => wpAny_pyIter_enum hen ?_
    exact ⟨s1.heap.objs.size + 1, _, _, _, H1, rfl, I1.kept (t' := s1.toks) hk, turn_enum a (s1.heap.objs.size + 1) s1.heap.objs.size, ⟨⟨.none, hen⟩, hit, Nat.succ_ne_self _⟩, fp, q⟩
  · obtain ⟨its, rv, pt, hz⟩ := I1.tuple hq
    have hal : a < s1.heap.objs.size := pt.lt
    refine enum_call (begins_tuple a its.toArray) pt fun h2 hen hit hk => wpAny_pyIter_enum hen ?_
    exact ⟨s1.heap.objs.size + 1, _, _, _, H1, rfl, I1.kept (t' := s1.toks) hk, turn_enumT a (s1.heap.objs.size + 1) s1.heap.objs.size, ⟨⟨.none, hen⟩, ⟨_, hit, rfl, rfl⟩, Nat.succ_ne_self _, Nat.ne_of_lt (Nat.lt_succ_of_lt hal), Nat.ne_of_lt hal⟩, fp, q⟩
theorem iEn {X : Cx} {c : Cn} {W : XW} {e : Expr} {f : EM} {p pos tpos : Pos} {elts : List Expr} {kk : Nat} (hg : Gl X "enumerate") (hm : X.mg "enumerate" = none) (he : PE X e (tD (dc X c W) f)) (hs : starEach [e] X.env = [(false, eval e X.env)] := by rfl) (hs' : starEach [e] X.env = (false, eval e X.env) :: starEach [] X.env := by rfl) :
    PI X (.Tuple elts kk tpos) (.Call (.Name "enumerate" p) [e] [] pos) (tI (dc X c W) (itEn f)) := PI.imp (pi_enumA hg hm he hs hs') fun _ _ _ => red_itEn
/-! ## comprehensions -/
def noOwn : SV → SV
  | .own _ => .un
  | s => s
def wipeR (r : List SV) : List Nat → List SV
  | [] => r.map noOwn
  | v :: vs => (wipeR r vs).set v .un
def toOpt {α : Type} : RE α → Option (α × DS)
  | .ok a w => some (a, w)
  | _ => none
def cmpL (p : Pat) (t : TM) (f : EM) (r : List SV) : List PyData → DS → Option (List PyData × DS)
  | [], w => some ([], w)
  | d :: ds, w =>
    (setP p d r).bind fun r1 => (toOpt (t r1 w)).bind fun bw =>
      if bw.1 = true then (toOpt (f r1 bw.2)).bind fun yw => (cmpL p t f r ds yw.2).bind fun zw => some (yw.1 :: zw.1, zw.2)
      else cmpL p t f r ds bw.2
def eComp (vs : List Nat) (fi : IM) (p : Pat) (t : TM) (f : EM) : EM := fun r w => (fi r w).bind fun ds w1 =>
  match cmpL p t f (wipeR r vs) ds w1 with
  | some (ys, w2) => if ys.length ≤ szL then .ok (.list ys) w2 else .bad
  | none => .bad
theorem wipeR_get {r : List SV} : ∀ {vs : List Nat} {i : Nat} {sv : SV}, (wipeR r vs)[i]? = some sv → sv = .un ∨ (i ∉ vs ∧ ∃ s0, r[i]? = some s0 ∧ sv = noOwn s0)
  | [], i, sv, h => by
    unfold wipeR at h
    rw [List.getElem?_map] at h
    cases e : r[i]? with
    | none => rw [e] at h; cases h
    | some s0 => rw [e] at h; exact .inr ⟨by simp, s0, rfl, (Option.some.inj h).symm⟩
  | v :: vs, i, sv, h => by
    unfold wipeR at h
    by_cases hi : v = i
    · subst hi
      by_cases hl : v < (wipeR r vs).length
      · rw [List.getElem?_set_self hl] at h
        exact .inl (Option.some.inj h).symm
      · rw [List.getElem?_eq_none (by simpa using hl)] at h; cases h
    · rw [List.getElem?_set_ne hi] at h
      rcases wipeR_get h with q | ⟨n, s0, e1, e2⟩
      · exact .inl q
      · exact .inr ⟨by simp only [List.mem_cons, not_or]; exact ⟨fun z => hi z.symm, n⟩, s0, e1, e2⟩
theorem wipeR_len {r : List SV} : ∀ {vs : List Nat}, (wipeR r vs).length = r.length
  | [] => by unfold wipeR; rw [List.length_map]
  | v :: vs => by unfold wipeR; rw [List.length_set, wipeR_len]
theorem wipe_get {σ : L2.St} : ∀ {vs : List Nat} {i : Nat}, i ∉ vs → (wipe σ vs)[i]? = σ[i]?
  | [], i, _ => rfl
  | v :: vs, i, h => by
    unfold wipe
    rw [List.getElem?_set_ne (fun z => h (by rw [z]; exact List.mem_cons_self ..)), wipe_get fun z => h (List.mem_cons_of_mem _ z)]
/-- a store into slots that the block forgets anyway -/
theorem wipe_same {σ σ' : L2.St} {l vs : List Nat} (h : SameAt l (wipe σ vs) σ') (hl : ∀ i ∈ l, i ∈ vs) : wipe σ' vs = wipe σ vs := by
  have key : ∀ (s : L2.St) (vs : List Nat) (i : Nat), (wipe s vs)[i]? = if i ∈ vs ∧ i < s.length then some none else s[i]? := by
    intro s vs
    induction vs with
    | nil => intro i; simp [wipe]
    | cons v vs ih =>
      intro i
      unfold wipe
      by_cases hi : v = i
      · subst hi
        by_cases hb : v < s.length
        · rw [List.getElem?_set_self (by rw [wipe_length]; exact hb), if_pos ⟨List.mem_cons_self .., hb⟩]
        · rw [if_neg (fun z => hb z.2), List.getElem?_eq_none (by rw [List.length_set, wipe_length]; omega), List.getElem?_eq_none (by omega)]
      · rw [List.getElem?_set_ne hi, ih i]
        by_cases hm : i ∈ vs ∧ i < s.length
        · rw [if_pos hm, if_pos ⟨List.mem_cons_of_mem _ hm.1, hm.2⟩]
        · rw [if_neg hm, if_neg fun z => hm ⟨(List.mem_cons.mp z.1).resolve_left fun e => hi e.symm, z.2⟩]
  have hlen : σ'.length = σ.length := by rw [h.1, wipe_length]
  apply List.ext_getElem?
  intro i
  rw [key σ' vs i, key σ vs i, hlen]
  by_cases hm : i ∈ vs ∧ i < σ.length
  · rw [if_pos hm, if_pos hm]
  · rw [if_neg hm, if_neg hm]
    by_cases hi : i ∈ l
    · have hv := hl i hi
      have nl : ¬ i < σ.length := fun z => hm ⟨hv, z⟩
      rw [List.getElem?_eq_none (by omega), List.getElem?_eq_none (by omega)]
    · rw [h.2 i hi, key σ vs i, if_neg hm]
section
variable {mg : Str → Option Value} {K : PySem.W.Frag} {c : Cn} {P : List (V × PyData)} {ow : Nat → Option Addr} {r : List SV} {w w' : DS} {σ : L2.St} {H1 H : Hp}
/-- the block's own state: D is being filled, nothing else of ours may change -/
abbrev blkC (c : Cn) (ow : Nat → Option Addr) (D : Addr) (H : Hp) : Cn := ⟨c.sa, fun b => Ow c.O0 ow b ∨ b = D, H⟩
theorem Rel.blk (R : Rel mg K c P ow r w σ H1) {D : Addr} (hD : H1 D = none) (k : Keep (SAd c.sa) H1 H) (hd : ∃ o, H D = some o) (st : StOk c.sa w' H) (vs : List Nat) {σ' : L2.St} (hσ : wipe σ vs = σ') :
    Rel mg K (blkC c ow D H) [] (fun _ => none) (wipeR r vs) w' σ' H := by
  subst hσ
  have sub : ∀ b, Ow (fun b => Ow c.O0 ow b ∨ b = D) (fun _ => none) b → Ow c.O0 ow b ∨ b = D := fun b h => by
    rcases h with h | ⟨_, h⟩
    · exact h
    · cases h
  exact {
    ok := ⟨fun b hb => .inl (R.subO b hb), fun b hb => by
      rcases hb with hb | hb
      · exact (R.after k st).dom' b hb
      · rw [hb]; exact hd⟩
    len := by rw [wipeR_len, wipe_length, R.len]
    slot := fun i sv e => by
      rcases wipeR_get e with z | ⟨n, s0, e1, e2⟩
      · subst z
        have hl : i < (wipe σ vs).length := by
          have := (List.getElem?_eq_some_iff.mp e).1
          rw [wipeR_len] at this
          rw [wipe_length, ← R.len]; exact this
        exact ⟨_, List.getElem?_eq_getElem hl, trivial⟩
      · obtain ⟨v, ev, q⟩ := R.slot i s0 e1
        refine ⟨v, by rw [wipe_get n]; exact ev, ?_⟩
        subst e2
        cases s0 with
        | un => exact trivial
        | val d =>
          obtain ⟨x, ex, p⟩ := q
          exact ⟨x, ex, ((p.grow hD).weak sub).keep k fun b hb => .inl (.inl (R.subO b hb))⟩
        | own ds => exact trivial
        | st => exact q
        | fn x => exact q
        | lam => exact q
    keep := .refl
    own := fun _ _ e => nomatch e
    owi := fun _ _ _ e => nomatch e
    st := st
    pin := fun p hp => absurd hp (by simp)
    tk := R.tk }
end
theorem pe_ex {X : Cx} {α : Type} {e : Expr} {t : α → TE} (h : ∀ a, PE X e (t a)) : PE X e (fun σ H Q => ∃ a, t a σ H Q) := ⟨fun pins s σ H Q I ⟨a, q⟩ => (h a).run pins s σ H Q I q⟩
theorem pts_ex {X : Cx} {α : Type} {es : List Expr} {t : α → TT} (h : ∀ a, PTs X es (t a)) : PTs X es (fun σ H Q => ∃ a, t a σ H Q) := ⟨fun pins s σ H Q I ⟨a, q⟩ => (h a).run pins s σ H Q I q⟩
theorem pg_ex {X : Cx} {α : Type} {e : Expr} {t : α → TG} (h : ∀ a, PG X e (t a)) : PG X e (fun v σ H Q => ∃ a, t a v σ H Q) := ⟨fun pins s σ H v u Q I r ⟨a, q⟩ => (h a).run pins s σ H v u Q I r q⟩
end DL

namespace DL
open L2 PySem PySem.Spec PyProof.Rows
/-- in a comprehension nothing is raised -/
abbrev WF : XW := fun _ _ _ _ _ _ => False
section
variable {C : Dc} {σ : L2.St} {H : Hp} {Q : VK}
/-- the state of a comprehension's list -/
structure CompAt (C : Dc) (ow : Nat → Option Addr) (D : Addr) (H1 H : Hp) (ys : List PyData) (w : DS) : Prop where
  acc : ∃ xs, H D = some (.lst xs) ∧ DoAll C.K H (fun b => Ow C.c.O0 ow b ∨ b = D) xs ys
  keep : Keep (SAd C.c.sa) H1 H
  st : StOk C.c.sa w H
theorem CompAt.push {P : List (V × PyData)} {ow : Nat → Option Addr} {r : List SV} {w1 w w' : DS} {σ : L2.St} {H1 H H2 : Hp} {D : Addr} {ys : List PyData} {v : V} {d : PyData} (R : C.Rl P ow r w1 σ H1) (hD : H1 D = none) (a : CompAt C ow D H1 H ys w)
    (k : Keep (SAd C.c.sa) H H2) (st : StOk C.c.sa w' H2) (hv : Do C.K H2 (fun b => Ow C.c.O0 ow b ∨ b = D) v d) (hl : ys.length < sizeLine) :
    ∃ xs, H2 D = some (.lst xs) ∧ xs.length < sizeLine ∧ CompAt C ow D H1 (upd H2 D (.lst (xs ++ [v]))) (ys ++ [d]) w' := by
  obtain ⟨xs, hx, hd⟩ := a.acc
  have nsa : ¬ SAd C.c.sa D := fun z => R.fresh hD (R.subO D z)
  have hx2 : H2 D = some (.lst xs) := k.same _ _ hx nsa
  have hd2 : DoAll C.K H2 (fun b => Ow C.c.O0 ow b ∨ b = D) xs ys := hd.keep k fun b hb => .inl (R.subO b hb)
  have kD : Keep (fun b => b = D) H2 (upd H2 D (.lst (xs ++ [v]))) := ⟨fun b o q n => by rw [upd_ne n]; exact q, fun b zs q => by
    have n : b ≠ D := fun z => by rw [z, hx2] at q; cases q
    rw [upd_ne n]; exact q, fun b o u q => by
    have n : b ≠ D := fun z => by rw [z, hx2] at q; cases q
    rw [upd_ne n]; exact q, fun b u q => by
    have n : b ≠ D := fun z => by rw [z, hx2] at q; cases q
    rw [upd_ne n]; exact q⟩
  refine ⟨xs, hx2, by rw [hd.length]; exact hl, ⟨_, upd_same, (hd2.append (.cons hv .nil)).keep kD fun b hb => .inr hb⟩, ?_, st.keep kD fun b hb z => nsa (z ▸ hb)⟩
  have k2 := a.keep.trans k
  exact ⟨fun b o q n => by
    rw [upd_ne (fun z => by rw [z, hD] at q; cases q)]
    exact k2.same b o q n, fun b zs q => kD.tup _ _ (k2.tup _ _ q), fun b o u q => kD.frz _ _ _ (k2.frz _ _ _ q), fun b u q => kD.ext _ _ (k2.ext _ _ q)⟩
theorem toOpt_some {α : Type} {x : RE α} {a : α × DS} (h : toOpt x = some a) : x = .ok a.1 a.2 := by
  cases x with
  | ok b w => unfold toOpt at h; cases h; rfl
  | ex _ _ _ => unfold toOpt at h; cases h
  | bad => unfold toOpt at h; cases h
theorem red_comp {vs : List Nat} {fi : IM} {p : Pat} {t : TM} {f : EM} (hp : ∀ i ∈ slotsP p, i ∈ vs) (h : tD C (eComp vs fi p t f) σ H Q) :
    tLc (tI C fi) (fun v σ H Q => ∃ c, tP ⟨C.mg, C.K, c, WF⟩ p v σ H Q) (fun σ H Q => ∃ c, tT ⟨C.mg, C.K, c, WF⟩ t σ H Q) (fun σ H Q => ∃ c, tD ⟨C.mg, C.K, c, WF⟩ f σ H Q) vs σ H Q := by
  obtain ⟨P, ow, r, w, R, h⟩ := h
  refine ⟨P, ow, r, w, R, gE.bind h fun ds w1 jp H1 _ k1 R1 p1 h1 => ?_⟩
  intro D hD
  obtain ⟨hpin, wk⟩ := p1
  -- the whole result
  obtain ⟨tot, wF, etot, hlen, h2⟩ : ∃ tot wF, cmpL p t f (wipeR r vs) ds w1 = some (tot, wF) ∧ tot.length ≤ szL ∧ gE C (fD C) (.ok (.list tot) wF) P ow r σ H1 Q := by
    cases e : cmpL p t f (wipeR r vs) ds w1 with
    | none => rw [e] at h1; exact h1.elim
    | some z =>
      obtain ⟨tot, wF⟩ := z
      rw [e] at h1
      have h3 : gE C (fD C) (if tot.length ≤ szL then .ok (.list tot) wF else .bad) P ow r σ H1 Q := h1
      by_cases hl : tot.length ≤ szL
      · rw [if_pos hl] at h3; exact ⟨tot, wF, rfl, hl, h3⟩
      · rw [if_neg hl] at h3; exact h3.elim
  have nsa : ¬ SAd C.c.sa D := fun z => R1.fresh hD (R1.subO D z)
  refine lc_it (g := fun v σ H Q => ∃ c, tP ⟨C.mg, C.K, c, WF⟩ p v σ H Q) (tt := fun σ H Q => ∃ c, tT ⟨C.mg, C.K, c, WF⟩ t σ H Q) (te := fun σ H Q => ∃ c, tD ⟨C.mg, C.K, c, WF⟩ f σ H Q) (vs := vs) (σ := σ) (Qd := fun H => Q (.ref D) H) wk (fun i H => ∃ ys w' rest, CompAt C ow D H1 H ys w' ∧ cmpL p t f (wipeR r vs) (ds.drop i) w' = some (rest, wF) ∧ tot = ys ++ rest)
    ⟨[], w1, tot, ⟨⟨[], upd_same, .nil⟩, .new hD, R1.st.keep (M := fun _ => False) (.new hD) fun _ _ z => z⟩, by rw [List.drop_zero]; exact etot, rfl⟩
    (fun i H _ ⟨ys, w', rest, a, _⟩ => ⟨fun b => Ow C.c.O0 ow b ∨ b = D, fun q hq => ((hpin q hq).grow hD).keep a.keep fun b hb => .inl (R1.subO b hb)⟩)
    (fun i x H H' hi hPv y => ?_) (fun H hPv => ?_)
  · obtain ⟨ys, w', rest, a, erest, etot2⟩ := hPv
    have hDd : ∃ o, H D = some o := let ⟨xs, hx, _⟩ := a.acc; ⟨_, hx⟩
    have domH : ∀ b, (Ow C.c.O0 ow b ∨ b = D) → ∃ o, H b = some o := fun b hb => by
      rcases hb with hb | hb
      · exact (R1.after a.keep a.st).dom' b hb
      · rw [hb]; exact hDd
    obtain ⟨sm, d, ed, pd⟩ := y _ domH fun q hq => ((hpin q hq).grow hD).keep a.keep fun b hb => .inl (R1.subO b hb)
    have ecs : ds.drop i = d :: ds.drop (i + 1) := by
      rw [← List.getElem_cons_drop hi]
      have : ds[i] = d := by
        rw [List.getElem?_eq_getElem hi] at ed
        exact Option.some.inj ed
      rw [this]
    rw [ecs] at erest
    unfold cmpL at erest
    have a' : CompAt C ow D H1 H' ys w' := by
      obtain ⟨xs, hx, hd⟩ := a.acc
      exact ⟨⟨xs, sm _ _ hx, hd.keep (Keep.of_same (M := fun _ => False) sm) fun _ z => z.elim⟩, a.keep.trans (.of_same sm), a.st.keep (M := fun _ => False) (.of_same sm) fun _ _ z => z⟩
    have hDd' : ∃ o, H' D = some o := let ⟨o, e⟩ := hDd; ⟨o, sm _ _ e⟩
    have Rb := R1.blk hD a'.keep hDd' a'.st vs rfl
    cases e1 : setP p d (wipeR r vs) with
    | none => rw [e1] at erest; cases erest
    | some r1 =>
      rw [e1] at erest
      have er1 : ((toOpt (t r1 w')).bind fun bw => if bw.1 = true then (toOpt (f r1 bw.2)).bind fun yw => (cmpL p t f (wipeR r vs) (ds.drop (i + 1)) yw.2).bind fun zw => some (yw.1 :: zw.1, zw.2)
        else cmpL p t f (wipeR r vs) (ds.drop (i + 1)) bw.2) = some (rest, wF) := erest
      refine ⟨blkC C.c ow D H', [], _, _, w', d, r1, Rb, pd.weak (fun b hb => by
        rcases hb with hb | ⟨_, hb⟩
        · exact hb
        · cases hb), e1, fun σ2 ow2 R2 sa sub => ⟨wipe_same sa hp, ?_⟩⟩
      cases e2 : toOpt (t r1 w') with
      | none => rw [e2] at er1; cases er1
      | some bw =>
        obtain ⟨b, w2⟩ := bw
        rw [e2] at er1
        refine ⟨blkC C.c ow D H', [], ow2, r1, w', R2, ?_⟩
        rw [toOpt_some e2]
        intro b' H3 k3 R3 eb
        have eb' : b = b' := eb
        subst eb'
        cases b with
        | true =>
          rw [if_pos rfl]
          have er2 : ((toOpt (f r1 w2)).bind fun yw => (cmpL p t f (wipeR r vs) (ds.drop (i + 1)) yw.2).bind fun zw => some (yw.1 :: zw.1, zw.2)) = some (rest, wF) := er1
          cases e3 : toOpt (f r1 w2) with
          | none => rw [e3] at er2; cases er2
          | some yw =>
            obtain ⟨z, w3⟩ := yw
            rw [e3] at er2
            have er3 : ((cmpL p t f (wipeR r vs) (ds.drop (i + 1)) w3).bind fun zw => some (z :: zw.1, zw.2)) = some (rest, wF) := er2
            cases e4 : cmpL p t f (wipeR r vs) (ds.drop (i + 1)) w3 with
            | none => rw [e4] at er3; cases er3
            | some zw =>
              obtain ⟨rest2, wE⟩ := zw
              rw [e4] at er3
              have er4 : some (z :: rest2, wE) = some (rest, wF) := er3
              cases er4
              refine ⟨blkC C.c ow D H', [], ow2, r1, w2, R3, ?_⟩
              rw [toOpt_some e3]
              intro v H4 k4 R4 pv
              have hyl : ys.length < sizeLine := by
                have q : (ys ++ z :: rest2).length ≤ szL := by rw [← etot2]; exact hlen
                rw [List.length_append, List.length_cons] at q
                exact Nat.lt_of_lt_of_le (by omega) szL_le
              obtain ⟨xs, hx, hl, a2⟩ := a'.push R1 hD (k3.trans k4) R4.st (pv.weak fun b hb => .inl hb) hyl
              exact ⟨xs, hx, hl, ys ++ [z], w3, rest2, a2, e4, by rw [etot2, List.append_assoc]; rfl⟩
        | false =>
          rw [if_neg Bool.false_ne_true]
          have er2 : cmpL p t f (wipeR r vs) (ds.drop (i + 1)) w2 = some (rest, wF) := er1
          obtain ⟨xs, hx, hd⟩ := a'.acc
          exact ⟨ys, w2, rest, ⟨⟨xs, k3.same _ _ hx nsa, hd.keep k3 fun b hb => .inl (R1.subO b hb)⟩, a'.keep.trans k3, R3.st⟩, er2, etot2⟩
  · obtain ⟨ys, w', rest, a, erest, etot2⟩ := hPv
    rw [List.drop_length] at erest
    unfold cmpL at erest
    cases erest
    rw [List.append_nil] at etot2
    subst etot2
    obtain ⟨xs, hx, hd⟩ := a.acc
    exact h2 (.ref D) H a.keep (R1.after a.keep a.st) (.lst hx (R1.fresh hD) (hd.weak fun b hb => .inl hb))
end
def tYesD : TM := fun _ w => .ok true w
theorem red_yes {C : Dc} {σ : L2.St} {H : Hp} {Q : Bool → Hp → Prop} (h : tT C tYesD σ H Q) : tYes σ H Q := by
  obtain ⟨P, ow, r, w, R, h⟩ := h
  exact h true H .refl R rfl
section
variable {X : Cx} {c : Cn} {W : XW} {pos : Pos}
theorem PTs.imp {X : Cx} {es : List Expr} {t t' : TT} (h : PTs X es t) (hi : ∀ σ H Q, t' σ H Q → t σ H Q) : PTs X es t' := ⟨fun pins s σ H Q I q => h.run pins s σ H Q I (hi σ H Q q)⟩
theorem qNil : PTs X [] (tT (dc X c W) tYesD) := PTs.imp pts_nil fun _ _ _ => red_yes
theorem qOne {e : Expr} {t : TM} (h : PT X e (tT (dc X c W) t)) : PTs X [e] (tT (dc X c W) t) := pts_one h
theorem dComp {elt tg iter : Expr} {ifs : List Expr} {scope : Scope} {own : List (Str × Nat)} {fi : IM} {p : Pat} {t : TM} {f : EM} (hc : X.calm = true) (hN : X.N.Nodup) (ok : BlkOk X.N X.env.scope scope own) (hi : PI X tg iter (tI (dc X c W) fi)) (hp : ∀ i ∈ slotsP p, i ∈ own.map (·.2))
    (hg : ∀ (s : Shared) (H : Hp) (C : Addr) (cl : List (Str × Addr)) (fp : List Addr) (c : Cn), PG (X.blk s H scope (compEnvC scope cl C X.env) fp) tg (tP (dc (X.blk s H scope (compEnvC scope cl C X.env) fp) c WF) p))
    (ht : ∀ (s : Shared) (H : Hp) (C : Addr) (cl : List (Str × Addr)) (fp : List Addr) (c : Cn), PTs (X.blk s H scope (compEnvC scope cl C X.env) fp) ifs (tT (dc (X.blk s H scope (compEnvC scope cl C X.env) fp) c WF) t))
    (he : ∀ (s : Shared) (H : Hp) (C : Addr) (cl : List (Str × Addr)) (fp : List Addr) (c : Cn), PE (X.blk s H scope (compEnvC scope cl C X.env) fp) elt (tD (dc (X.blk s H scope (compEnvC scope cl C X.env) fp) c WF) f))
    (hs : ∀ x, foldedSetIterable iter X.env x = pure x := by intro _; rfl) :
    PE X (.ListComp elt [⟨tg, iter, ifs, 0⟩] scope pos) (tD (dc X c W) (eComp (own.map (·.2)) fi p t f)) :=
  PE.imp (pe_lc hc hN hi ok (fun s H C cl fp => pg_ex (hg s H C cl fp)) (fun s H C cl fp => pts_ex (ht s H C cl fp)) (fun s H C cl fp => pe_ex (he s H C cl fp)) hs) fun _ _ _ => red_comp hp
theorem stComp {i : Nat} {y : Str} {py spos : Pos} {elt tg iter : Expr} {ifs : List Expr} {scope : Scope} {own : List (Str × Nat)} {fi : IM} {p : Pat} {t : TM} {f : EM} (hc : X.calm = true) (hN : X.N.Nodup) (hy : X.N[i]? = some y) (hyl : X.env.scope.names.lookup y = some .local)
    (hsw : swapsWith (.ListComp elt [⟨tg, iter, ifs, 0⟩] scope pos) (some (.Name y py)) spos.line X.env = pure true) (ok : BlkOk X.N X.env.scope scope own) (hi : PI X tg iter (tI (dc X c W) fi)) (hp : ∀ i ∈ slotsP p, i ∈ own.map (·.2))
    (hg : ∀ (s : Shared) (H : Hp) (C : Addr) (cl : List (Str × Addr)) (fp : List Addr) (c : Cn), PG (X.blk s H scope (compEnvC scope cl C X.env) fp) tg (tP (dc (X.blk s H scope (compEnvC scope cl C X.env) fp) c WF) p))
    (ht : ∀ (s : Shared) (H : Hp) (C : Addr) (cl : List (Str × Addr)) (fp : List Addr) (c : Cn), PTs (X.blk s H scope (compEnvC scope cl C X.env) fp) ifs (tT (dc (X.blk s H scope (compEnvC scope cl C X.env) fp) c WF) t))
    (he : ∀ (s : Shared) (H : Hp) (C : Addr) (cl : List (Str × Addr)) (fp : List Addr) (c : Cn), PE (X.blk s H scope (compEnvC scope cl C X.env) fp) elt (tD (dc (X.blk s H scope (compEnvC scope cl C X.env) fp) c WF) f))
    (hs : ∀ x, foldedSetIterable iter X.env x = pure x := by intro _; rfl) :
    PS X (.Assign [.Name y py] (.ListComp elt [⟨tg, iter, ifs, 0⟩] scope pos) spos) (tS (dc X c W) (sSet i (eComp (own.map (·.2)) fi p t f))) :=
  PS.imp (ps_setLc hc hN hy hyl hsw hi ok (fun s H C cl fp => pg_ex (hg s H C cl fp)) (fun s H C cl fp => pts_ex (ht s H C cl fp)) (fun s H C cl fp => pe_ex (he s H C cl fp)) hs) fun D σ H h => red_comp hp (red_set h)
end
end DL

namespace DL
open L2 PySem PySem.Spec PyProof.Rows
/-! ## the operators on data -/
def addD : PyData → PyData → Option PyData
  | .int a, .int b => some (.int (a + b))
  | .str a, .str b => if a.length + b.length ≤ szL then some (.str (a ++ b)) else none
  | .tuple a, .tuple b => if a.length + b.length ≤ szL then some (.tuple (a ++ b)) else none
  | .list a, .list b => if a.length + b.length ≤ szL then some (.list (a ++ b)) else none
  | _, _ => none
def subD : PyData → PyData → Option PyData
  | .int a, .int b => some (.int (a - b))
  | _, _ => none
def mulD : PyData → PyData → Option PyData
  | .int a, .int b => if (-(2 ^ 64) < a ∧ a < 2 ^ 64) ∨ (-(2 ^ 64) < b ∧ b < 2 ^ 64) then some (.int (a * b)) else none
  | .tuple a, .int k => if a ≠ [] ∧ 2 ≤ k ∧ k ≤ 1000 ∧ a.length ≤ 1000 then some (.tuple (List.replicate k.toNat a).flatten) else none
  | .list a, .int k => if 0 ≤ k ∧ k ≤ 1000 ∧ a.length ≤ 1000 then some (.list (List.replicate k.toNat a).flatten) else none
  | _, _ => none
def fdivD : PyData → PyData → Option PyData
  | .int a, .int b => if 0 < b ∧ b < 1073741824 then some (.int (a / b)) else none
  | _, _ => none
def modD : PyData → PyData → Option PyData
  | .int a, .int b => if 0 < b then some (.int (a % b)) else none
  | _, _ => none
def powD : PyData → PyData → Option PyData
  | .int a, .int b => if 0 ≤ b ∧ b ≤ 1000000 ∧ a.natAbs < 2 ^ 64 then some (.int (a ^ b.toNat)) else none
  | _, _ => none
def shlD : PyData → PyData → Option PyData
  | .int a, .int b => if 0 ≤ b ∧ b ≤ 1000000 ∧ a.natAbs < 2 ^ 64 then some (.int (a * 2 ^ b.toNat)) else none
  | _, _ => none
def shrD : PyData → PyData → Option PyData
  | .int a, .int b => if 0 ≤ b then some (.int (a / 2 ^ b.toNat)) else none
  | _, _ => none
def andD : PyData → PyData → Option PyData
  | .int a, .int b => some (.int (Builtin.bitAnd a b))
  | _, _ => none
def orD : PyData → PyData → Option PyData
  | .int a, .int b => some (.int (Builtin.bitOr a b))
  | _, _ => none
def negD : PyData → Option PyData
  | .int a => some (.int (-a))
  | _ => none
def eqD (d e : PyData) : Option PyData := if SeqAt.shaped d = true ∧ SeqAt.shaped e = true then some (.bool (PyData.eqv d e)) else none
def neD (d e : PyData) : Option PyData := if SeqAt.shaped d = true ∧ SeqAt.shaped e = true then some (.bool (!PyData.eqv d e)) else none
def toInts : List PyData → Option (List Int)
  | [] => some []
  | .int i :: r => (toInts r).map (i :: ·)
  | _ :: _ => none
def tupLe (ns ms : List Int) : Bool := Ob.lexAt (fun j => decide (ns.getD j 0 = ms.getD j 0)) (fun j => decide (ns.getD j 0 ≤ ms.getD j 0)) (decide (ns.length ≤ ms.length)) 0 (min ns.length ms.length)
def ltD : PyData → PyData → Option PyData
  | .int a, .int b => some (.bool (decide (a < b)))
  | _, _ => none
def leD : PyData → PyData → Option PyData
  | .int a, .int b => some (.bool (decide (a ≤ b)))
  | .tuple a, .tuple b => (toInts a).bind fun ns => (toInts b).bind fun ms => some (.bool (tupLe ns ms))
  | _, _ => none
def gtD : PyData → PyData → Option PyData
  | .int a, .int b => some (.bool (decide (b < a)))
  | _, _ => none
def geD : PyData → PyData → Option PyData
  | .int a, .int b => some (.bool (decide (b ≤ a)))
  | _, _ => none
def isNone : PyData → Bool
  | .none => true
  | _ => false
def isD : PyData → PyData → Option PyData
  | d, .none => some (.bool (isNone d))
  | .bool a, .bool b => some (.bool (decide (a = b)))
  | _, _ => none
def isNotD : PyData → PyData → Option PyData
  | d, .none => some (.bool (!isNone d))
  | .bool a, .bool b => some (.bool (!decide (a = b)))
  | _, _ => none
section
variable {X : Cx}
theorem two_ints {g : PyData → PyData → Option PyData} {f : Value → Value → Sem Value} {r : R2} (ho : OpR X f r) (h : ∀ (x y : V) (H : Hp) (Q : VK) (d e z : PyData) (O : Addr → Prop), (∀ b, O b → ∃ o, H b = some o) → Do X.K H O x d → Do X.K H O y e → g d e = some z → (∀ v H', Same H H' → Do X.K H' O v z → Q v H') → r x y H Q) : OpR X f (rD2 X.K g) := by
  intro pins s σ H x y v u Q I rx ry q
  obtain ⟨O, d, e, z, dom, hd, he, hg, q⟩ := q
  exact ho pins s σ H x y v u Q I rx ry (h x y H Q d e z O dom hd he hg q)
theorem toInts_do {K : PySem.W.Frag} {H : Hp} {O : Addr → Prop} : ∀ {xs : List V} {ds : List PyData} {ns : List Int}, DoAll K H O xs ds → toInts ds = some ns → xs = ns.map V.int
  | _, _, _, .nil, h => by unfold toInts at h; cases h; rfl
  | _, _, ns, @DoAll.cons _ _ _ v vs d ds hv hvs, h => by
    cases d with
    | int i =>
      unfold toInts at h
      cases e : toInts ds with
      | none => rw [e] at h; cases h
      | some ms =>
        rw [e] at h
        cases h
        cases hv
        rw [toInts_do hvs e]
        rfl
    | none => unfold toInts at h; cases h
    | bool _ => unfold toInts at h; cases h
    | str _ => unfold toInts at h; cases h
    | list _ => unfold toInts at h; cases h
    | tuple _ => unfold toInts at h; cases h
    | dict _ => unfold toInts at h; cases h
theorem do_new_tup {K : PySem.W.Frag} {H : Hp} {O : Addr → Prop} {p : Addr} {xs : List V} {ds : List PyData} (hp : H p = none) (h : DoAll K H O xs ds) : Do K (upd H p (.tup xs)) O (.ref p) (.tuple ds) :=
  .tupN upd_same (h.keep (.new (M := fun _ => False) hp) fun _ z => z.elim)
theorem do_new_lst {K : PySem.W.Frag} {H : Hp} {O : Addr → Prop} {p : Addr} {xs : List V} {ds : List PyData} (dom : ∀ b, O b → ∃ o, H b = some o) (hp : H p = none) (h : DoAll K H O xs ds) : Do K (upd H p (.lst xs)) O (.ref p) (.list ds) :=
  .lst upd_same (fun z => by obtain ⟨o, e⟩ := dom p z; rw [hp] at e; cases e) (h.keep (.new (M := fun _ => False) hp) fun _ z => z.elim)
theorem DoAll.nil_iff {K : PySem.W.Frag} {H : Hp} {O : Addr → Prop} {xs : List V} {ds : List PyData} (h : DoAll K H O xs ds) : xs = [] ↔ ds = [] := by
  have := h.length
  cases xs <;> cases ds <;> simp_all
theorem o_add : OpR X (binaryOp .Add) (rD2 X.K addD) := by
  refine two_ints (OpR.or op_add (OpR.or op_add_str (OpR.or op_cat op_catA))) fun x y H Q d e z O dom hd he hg q => ?_
  cases d with
  | int a =>
    cases e with
    | int b =>
      unfold addD at hg; cases hg; cases hd; cases he
      exact .inl ⟨a, b, rfl, rfl, q _ _ (Same.refl _) (.int _)⟩
    | _ => unfold addD at hg; cases hg
  | str a =>
    cases e with
    | str b =>
      simp only [addD] at hg
      by_cases hl : a.length + b.length ≤ szL
      · rw [if_pos hl] at hg; cases hg; cases hd; cases he
        exact .inr (.inl ⟨a, b, rfl, rfl, Nat.le_trans hl szL_le, q _ _ (Same.refl _) (.str _)⟩)
      · rw [if_neg hl] at hg; cases hg
    | _ => unfold addD at hg; cases hg
  | list a =>
    cases e with
    | list b =>
      simp only [addD] at hg
      by_cases hl : a.length + b.length ≤ szL
      · rw [if_pos hl] at hg; cases hg
        cases hd with
        | @lst p xs _ hx n1 ha =>
          cases he with
          | @lst p2 ys _ hy n2 hb =>
            exact .inr (.inr (.inl ⟨p, p2, xs, ys, rfl, rfl, hx, hy, by rw [ha.length, hb.length]; exact Nat.le_trans hl szL_le, fun l hl2 => q _ _ (same_new hl2) (do_new_lst dom hl2 (ha.append hb))⟩))
      · rw [if_neg hl] at hg; cases hg
    | _ => unfold addD at hg; cases hg
  | tuple a =>
    cases e with
    | tuple b =>
      simp only [addD] at hg
      by_cases hl : a.length + b.length ≤ szL
      · rw [if_pos hl] at hg; cases hg
        cases hd with
        | @tup p xs _ hx zx ha =>
          cases he with
          | @tup p2 ys _ hy zy hb =>
            refine .inr (.inr (.inr ⟨p, p2, xs, ys, rfl, rfl, hx, hy, by rw [ha.length, hb.length]; exact Nat.le_trans hl szL_le, fun z => ?_, fun z1 z2 => ?_, fun z1 z2 l hl2 => q _ _ (same_new hl2) (do_new_tup hl2 (ha.append hb))⟩))
            · have e : a = [] := ha.nil_iff.mp z
              subst e
              exact q _ _ (Same.refl _) (.tup hy zy hb)
            · have e : b = [] := hb.nil_iff.mp z2
              subst e
              rw [List.append_nil] at q
              exact q _ _ (Same.refl _) (.tup hx zx ha)
      · rw [if_neg hl] at hg; cases hg
    | _ => unfold addD at hg; cases hg
  | _ => cases e <;> (unfold addD at hg; cases hg)
theorem o_sub : OpR X (binaryOp .Sub) (rD2 X.K subD) := by
  refine two_ints op_sub fun x y H Q d e z O dom hd he hg q => ?_
  cases d <;> cases e <;> (unfold subD at hg; cases hg)
  cases hd; cases he
  exact ⟨_, _, rfl, rfl, q _ _ (Same.refl _) (.int _)⟩
theorem o_and : OpR X (binaryOp .BitAnd) (rD2 X.K andD) := by
  refine two_ints op_and fun x y H Q d e z O dom hd he hg q => ?_
  cases d <;> cases e <;> (unfold andD at hg; cases hg)
  cases hd; cases he
  exact ⟨_, _, rfl, rfl, q _ _ (Same.refl _) (.int _)⟩
theorem o_or : OpR X (binaryOp .BitOr) (rD2 X.K orD) := by
  refine two_ints op_or fun x y H Q d e z O dom hd he hg q => ?_
  cases d <;> cases e <;> (unfold orD at hg; cases hg)
  cases hd; cases he
  exact ⟨_, _, rfl, rfl, q _ _ (Same.refl _) (.int _)⟩
theorem ints_if {g : PyData → PyData → Option PyData} {C : Int → Int → Prop} [∀ a b, Decidable (C a b)] {k : Int → Int → Int} {f : Value → Value → Sem Value} (ho : OpR X f (rI C fun i j => .int (k i j)))
    (h1 : ∀ a b, g (.int a) (.int b) = if C a b then some (.int (k a b)) else none) (h2 : ∀ d e, (∀ a b, ¬ (d = .int a ∧ e = .int b)) → g d e = none) : OpR X f (rD2 X.K g) := by
  refine two_ints ho fun x y H Q d e z O dom hd he hg q => ?_
  by_cases hi : ∃ a b, d = .int a ∧ e = .int b
  · obtain ⟨a, b, rfl, rfl⟩ := hi
    rw [h1] at hg
    by_cases hc : C a b
    · rw [if_pos hc] at hg; cases hg; cases hd; cases he
      exact ⟨a, b, rfl, rfl, hc, q _ _ (Same.refl _) (.int _)⟩
    · rw [if_neg hc] at hg; cases hg
  · rw [h2 d e fun a b z => hi ⟨a, b, z⟩] at hg; cases hg
theorem o_fdiv : OpR X (binaryOp .FloorDiv) (rD2 X.K fdivD) :=
  ints_if (C := fun i j => 0 < j ∧ j < 1073741824) (k := fun i j => i / j) op_fdiv (fun _ _ => rfl) fun d e h => by cases d <;> cases e <;> first | rfl | exact absurd ⟨rfl, rfl⟩ (h _ _)
theorem o_mod : OpR X (binaryOp .Mod) (rD2 X.K modD) :=
  ints_if (C := fun _ j => 0 < j) (k := fun i j => i % j) op_mod (fun _ _ => rfl) fun d e h => by cases d <;> cases e <;> first | rfl | exact absurd ⟨rfl, rfl⟩ (h _ _)
theorem o_pow : OpR X (binaryOp .Pow) (rD2 X.K powD) :=
  ints_if (C := fun i j => 0 ≤ j ∧ j ≤ 1000000 ∧ i.natAbs < 2 ^ 64) (k := fun i j => i ^ j.toNat) op_pow (fun _ _ => rfl) fun d e h => by cases d <;> cases e <;> first | rfl | exact absurd ⟨rfl, rfl⟩ (h _ _)
theorem o_shl : OpR X (binaryOp .LShift) (rD2 X.K shlD) :=
  ints_if (C := fun i j => 0 ≤ j ∧ j ≤ 1000000 ∧ i.natAbs < 2 ^ 64) (k := fun i j => i * 2 ^ j.toNat) op_shl (fun _ _ => rfl) fun d e h => by cases d <;> cases e <;> first | rfl | exact absurd ⟨rfl, rfl⟩ (h _ _)
theorem o_shr : OpR X (binaryOp .RShift) (rD2 X.K shrD) :=
  ints_if (C := fun _ j => 0 ≤ j) (k := fun i j => i / 2 ^ j.toNat) op_shr (fun _ _ => rfl) fun d e h => by cases d <;> cases e <;> first | rfl | exact absurd ⟨rfl, rfl⟩ (h _ _)
theorem ints_bool {g : PyData → PyData → Option PyData} {k : Int → Int → Bool} {f : Value → Value → Sem Value} (ho : OpR X f (rI0 fun i j => .bl (k i j)))
    (h1 : ∀ a b, g (.int a) (.int b) = some (.bool (k a b))) (h2 : ∀ d e, (∀ a b, ¬ (d = .int a ∧ e = .int b)) → g d e = none) : OpR X f (rD2 X.K g) := by
  refine two_ints ho fun x y H Q d e z O dom hd he hg q => ?_
  by_cases hi : ∃ a b, d = .int a ∧ e = .int b
  · obtain ⟨a, b, rfl, rfl⟩ := hi
    rw [h1] at hg
    cases hg; cases hd; cases he
    exact ⟨a, b, rfl, rfl, q _ _ (Same.refl _) (.bl _)⟩
  · rw [h2 d e fun a b z => hi ⟨a, b, z⟩] at hg; cases hg
theorem o_lt : OpR X (compareOp .Lt) (rD2 X.K ltD) := ints_bool op_lt (fun _ _ => rfl) fun d e h => by cases d <;> cases e <;> first | rfl | exact absurd ⟨rfl, rfl⟩ (h _ _)
theorem o_gt : OpR X (compareOp .Gt) (rD2 X.K gtD) := ints_bool op_gt (fun _ _ => rfl) fun d e h => by cases d <;> cases e <;> first | rfl | exact absurd ⟨rfl, rfl⟩ (h _ _)
theorem o_ge : OpR X (compareOp .GtE) (rD2 X.K geD) := ints_bool op_ge (fun _ _ => rfl) fun d e h => by cases d <;> cases e <;> first | rfl | exact absurd ⟨rfl, rfl⟩ (h _ _)
theorem o_le (hu : X.A.units < cLine) : OpR X (compareOp .LtE) (rD2 X.K leD) := by
  refine two_ints (OpR.or op_le (op_leT hu)) fun x y H Q d e z O dom hd he hg q => ?_
  cases d with
  | int a =>
    cases e with
    | int b =>
      unfold leD at hg; cases hg; cases hd; cases he
      exact .inl ⟨a, b, rfl, rfl, q _ _ (Same.refl _) (.bl _)⟩
    | _ => unfold leD at hg; cases hg
  | tuple a =>
    cases e with
    | tuple b =>
      simp only [leD] at hg
      cases e1 : toInts a with
      | none => rw [e1] at hg; cases hg
      | some ns =>
        cases e2 : toInts b with
        | none => rw [e1, e2] at hg; cases hg
        | some ms =>
          rw [e1, e2] at hg
          cases hg
          cases hd with
          | @tup p xs _ hx zx ha =>
            cases he with
            | @tup p2 ys _ hy zy hb =>
              have q1 := toInts_do ha e1
              have q2 := toInts_do hb e2
              subst q1 q2
              exact .inr ⟨p, p2, ns, ms, rfl, rfl, hx, hy, q _ _ (Same.refl _) (.bl _)⟩
    | _ => unfold leD at hg; cases hg
  | _ => cases e <;> (unfold leD at hg; cases hg)
theorem o_eq (hu : X.A.units + 64 < cLine) : OpR X (compareOp .Eq) (rD2 X.K eqD) := by
  refine two_ints (op_eqD hu) fun x y H Q d e z O dom hd he hg q => ?_
  unfold eqD at hg
  by_cases hc : SeqAt.shaped d = true ∧ SeqAt.shaped e = true
  · rw [if_pos hc] at hg; cases hg
    exact ⟨d, e, hd.dp (noDict_of_shaped hc.1), he.dp (noDict_of_shaped hc.2), hc.1, hc.2, q _ _ (Same.refl _) (.bl _)⟩
  · rw [if_neg hc] at hg; cases hg
theorem o_ne (hu : X.A.units + 64 < cLine) : OpR X (compareOp .NotEq) (rD2 X.K neD) := by
  refine two_ints (op_neD hu) fun x y H Q d e z O dom hd he hg q => ?_
  unfold neD at hg
  by_cases hc : SeqAt.shaped d = true ∧ SeqAt.shaped e = true
  · rw [if_pos hc] at hg; cases hg
    exact ⟨d, e, hd.dp (noDict_of_shaped hc.1), he.dp (noDict_of_shaped hc.2), hc.1, hc.2, q _ _ (Same.refl _) (.bl _)⟩
  · rw [if_neg hc] at hg; cases hg
theorem do_non {K : PySem.W.Frag} {H : Hp} {O : Addr → Prop} {x : V} {d : PyData} (h : Do K H O x d) : decide (x = .non) = isNone d := by
  cases h <;> rfl
theorem o_is : OpR X (compareOp .Is) (rD2 X.K isD) := by
  refine two_ints (OpR.or op_isN op_is_bl) fun x y H Q d e z O dom hd he hg q => ?_
  cases e with
  | none =>
    have hg' : some (PyData.bool (isNone d)) = some z := by cases d <;> exact hg
    cases hg'
    cases he
    exact .inl ⟨rfl, by rw [do_non hd]; exact q _ _ (Same.refl _) (.bl _)⟩
  | bool b =>
    cases d with
    | bool a =>
      unfold isD at hg; cases hg; cases hd; cases he
      exact .inr ⟨a, b, rfl, rfl, q _ _ (Same.refl _) (.bl _)⟩
    | _ => unfold isD at hg; cases hg
  | _ => cases d <;> (unfold isD at hg; cases hg)
theorem o_isNot : OpR X (compareOp .IsNot) (rD2 X.K isNotD) := by
  refine two_ints (OpR.or op_notN op_isnot_bl) fun x y H Q d e z O dom hd he hg q => ?_
  cases e with
  | none =>
    have hg' : some (PyData.bool (!isNone d)) = some z := by cases d <;> exact hg
    cases hg'
    cases he
    exact .inl ⟨rfl, by rw [do_non hd]; exact q _ _ (Same.refl _) (.bl _)⟩
  | bool b =>
    cases d with
    | bool a =>
      unfold isNotD at hg; cases hg; cases hd; cases he
      exact .inr ⟨a, b, rfl, rfl, q _ _ (Same.refl _) (.bl _)⟩
    | _ => unfold isNotD at hg; cases hg
  | _ => cases d <;> (unfold isNotD at hg; cases hg)
theorem o_neg : UnR X (unaryOp .USub) (rD1 X.K negD) := by
  intro pins s σ H x v Q I rx h
  obtain ⟨O, d, z, dom, hd, hg, q⟩ := h
  cases d <;> (unfold negD at hg; cases hg)
  cases hd
  exact un_neg pins s σ H _ v Q I rx ⟨_, rfl, q _ _ (Same.refl _) (.int _)⟩
end
end DL

namespace DL
open L2 PySem PySem.Spec PyProof.Rows
/-! ## defs that are called where no repr is running -/
structure FnG (P : Program) (w : World) (K : PySem.W.Frag) (mg : Str → Option Value) (base : Heap) (k : Nat) (f : Addr) (fd : FuncData) (ps : List Str) (sp : Sp) : Prop where
  len : ∀ vs H Q E, sp vs H Q E → vs.length = ps.length
  run : ∀ (A : Around) (outer : List Env) (s : Shared) (H : Hp) (args : Args) (us : List Value) (vs : List V) (Q : VK) (E : XK), Room k A → A.guards = some [] → Env0 P w K mg base A outer s H → BindsTo s fd args (ps.zip us) → Vals vs us → sp vs H Q E →
    codeAny (model P w) A (.call (.ref f) args) (CR CX0 outer P w H s Q E) s
section
variable {P : Program} {w : World} {K : PySem.W.Frag} {mg : Str → Option Value} {base : Heap} {k j : Nat} {f : Addr} {fd : FuncData} {ps : List Str} {sp sp' : Sp}
theorem FnG.mono (F : FnG P w K mg base j f fd ps sp) (h : j ≤ k) : FnG P w K mg base k f fd ps sp := ⟨F.len, fun A o s H args us vs Q E hr => F.run A o s H args us vs Q E (hr.mono h)⟩
theorem FnG.imp (F : FnG P w K mg base k f fd ps sp) (h : ∀ vs H Q E, sp' vs H Q E → sp vs H Q E) : FnG P w K mg base k f fd ps sp' :=
  ⟨fun vs H Q E q => F.len vs H Q E (h vs H Q E q), fun A o s H args us vs Q E hr hg he hb hv hs => F.run A o s H args us vs Q E hr hg he hb hv (h vs H Q E hs)⟩
theorem FnG.of (F : FnOk P w K mg base CX0 k f fd ps sp) : FnG P w K mg base k f fd ps sp := ⟨F.len, fun A o s H args us vs Q E hr _ => F.run A o s H args us vs Q E hr⟩
/-- a def's promise by its body -/
theorem fn_G {x qual : Str} {st : Stmt} {N : List Str} (F : Fun K x qual st f fd) (S : FnScope N ps (defScope st)) (len : ∀ vs H Q E, sp vs H Q E → vs.length = ps.length)
    (hbody : ∀ (cdv : Value) (A : Around) (outer : List Env) (s : Shared) (H : Hp) (vs : List V) (Q : VK) (E : XK), Room k (A.deeper (envOfC qual (defScope st) s.heap.objs.size f cdv)) → A.guards = some [] → cdv = fd.code → sp vs H Q E →
      ∃ t, PSs (cxOf CX0 P w K mg base N qual (defScope st) f cdv A outer s H E).nox (defBody st) t ∧ t { nx := fun _ H' => Q .non H', rt := Q } (start N vs) H) : FnG P w K mg base (k + 1) f fd ps sp := by
  obtain ⟨oc, od, kV, doc, pm, an, cdv, ct, osl, rfl, lk, hcd⟩ := F.ex
  refine ⟨len, fun A outer s H args us vs Q E hr hgd e0 hb r hsp => ?_⟩
  have kept := fun b o e => (e0.bs b o e).1
  have KX : K.In s.heap := e0.mod.kin.keeps kept
  have lim : s.heap.NoLimit := e0.mod.nolimit.keeps kept
  have kinds : ∀ y ∈ ps.zip us, (defScope st).names.lookup y.1 = some .local ∨ ((defScope st).names.lookup y.1 = some .cell ∧ ((cellsFrom (s.heap.objs.size + 1) (defScope st).names []).lookup y.1).isSome = true) := by
    rintro ⟨nm, v⟩ hy
    rcases S.par nm (List.of_mem_zip hy).1 with q | q
    · exact .inl q
    · exact .inr ⟨q, PySem.W.cellsFrom_some _ _ _ (.inl q)⟩
  refine codeAny_call_function hr.depth (KX _ _ lk) rfl S.co S.gen rfl (PySem.W.codeRec_of KX hcd) (hb _ _ _ _ ?_)
  refine wpAny_newFunctionEnv_cells S.kind kinds fun env he s1 xx => ?_
  subst he
  refine ⟨lim.keeps xx.toInCall.keep, codeAny_func ?_⟩
  obtain ⟨t, ht, hq⟩ := hbody cdv A outer s H vs Q E (hr.deeper _) hgd rfl hsp
  have I : Inv (cxOf CX0 P w K mg base N qual (defScope st) f cdv A outer s H E) [] (start N vs) H s1 := inv_start S hr.hd e0 (len _ _ _ _ hsp) r xx
  refine wpAny_mono (ht.nox.run [] s1 (start N vs) H _ I hq) (fun fl s2 hs => ?_) fun _ _ hs => hs
  cases fl with
  | ret u =>
    obtain ⟨v, σ2, H2, J, rv, q⟩ := hs
    exact ⟨v, H2, J.os, J.bare, J.base, J.hok, rv, q⟩
  | next =>
    obtain ⟨σ2, H2, J, q⟩ := hs
    exact ⟨V.non, H2, J.os, J.bare, J.base, J.hok, rfl, q⟩
  | brk =>
    obtain ⟨_, _, _, q⟩ := hs
    exact q.elim
  | cont =>
    obtain ⟨_, _, _, q⟩ := hs
    exact q.elim
end
section
variable {X : Cx} {k : Nat} {f : Addr} {fd : FuncData} {ps ks : List Str} {sp : Sp} {x : Str} {p pos : Pos} {e : Expr} {es : List Expr} {kws : List Keyword} {t tk : TA}
theorem run_G {pins : List (Addr × Obj)} {σ : L2.St} {H : Hp} {s : Shared} {Q : VK} {args : Args} {us : List Value} {vs : List V} (F : FnG X.prog X.w X.K X.mg X.base k f fd ps sp) (hr : Room k X.A) (hgd : X.A.guards = some [])
    (I : Inv X pins σ H s) (hb : BindsTo s fd args (ps.zip us)) (r : Vals vs us) (h : sp vs H Q E0) : codeAny (model X.prog X.w) X.A (.call (.ref f) args) (fun r s' => match r with
      | .ok (.ret u) => EP X pins σ Q u s'
      | .ok _ => False
      | .error e => X.xe e s') s := by
  refine codeAny_mono (F.run X.A X.stack s H args us vs Q E0 hr hgd I.env0 hb r h) fun r s' hq => ?_
  cases r with
  | error e => exact hq.elim
  | ok fl =>
    cases fl with
    | ret u => exact I.after hq
    | next => exact hq.elim
    | brk => exact hq.elim
    | cont => exact hq.elim
theorem pe_callG (F : FnG X.prog X.w X.K X.mg X.base k f fd ps sp) (hr : Room k X.A) (hgd : X.A.guards = some []) (hg : Gl X x) (hm : X.mg x = some (.ref f)) (hk : PySem.W.keepIn X.K (.ref f) = true) (hb : Binds X.K fd ps [])
    (ha : PA X (e :: es) t) (hdb : (x == ("__debug__" : Str)) = false := by decide) (he : starEach (e :: es) X.env = (false, eval e X.env) :: starEach es X.env := by rfl) (hpl : (backTo pos (starEach es X.env)).any (·.1) = false := by rfl) :
    PE X (.Call (.Name x p) (e :: es) [] pos) (fun σ H Q => t σ H fun vs H1 => sp vs H1 Q E0) := by
  refine ⟨fun pins s σ H Q I h => wpAny_Call_Name_kw (ld_glob I hg hm ?_ hdb)⟩
  refine PySem.W.callWith_K (h₀ := X.base) I.ok.mod.kin hk (thn (ha.run pos pins s σ H _ I h) fun us s1 ⟨vs, H1, I1, r, q⟩ => ⟨I1.kIn, ?_⟩) he hpl
  have hl : (us ++ []).length = ps.length := by rw [List.append_nil, ← r.length]; exact F.len _ _ _ _ q
  have bb := hb s1 us I1.kIn hl
  rw [List.append_nil] at bb
  exact wpAny_call (codeAny_mono (run_G F hr hgd I1 bb r q) fun r s' hq => by
    rcases r with e | (u | _ | _ | _) <;> exact hq)
theorem pe_callG0 (F : FnG X.prog X.w X.K X.mg X.base k f fd ps sp) (hr : Room k X.A) (hgd : X.A.guards = some []) (hg : Gl X x) (hm : X.mg x = some (.ref f)) (hk : PySem.W.keepIn X.K (.ref f) = true) (hb : Binds X.K fd ps [])
    (hdb : (x == ("__debug__" : Str)) = false := by decide) : PE X (.Call (.Name x p) [] [] pos) (fun σ H Q => sp [] H Q E0) := by
  refine ⟨fun pins s σ H Q I h => wpAny_Call_Name_kw (ld_glob I hg hm ?_ hdb)⟩
  refine PySem.W.callWith_K0 I.kIn hk ?_
  have hl : ([] ++ [] : List Value).length = ps.length := by have := F.len _ _ _ _ h; simpa using this
  have bb := hb s [] I.kIn hl
  rw [List.append_nil] at bb
  exact wpAny_call (codeAny_mono (run_G F hr hgd I bb .nil h) fun r s' hq => by
    rcases r with e | (u | _ | _ | _) <;> exact hq)
/-- keywords alone, put in the parameters' order by the places at ix -/
def pick {α : Type} (ix : List Nat) (l : List α) : List α := ix.filterMap fun i => l[i]?
theorem pick_vals {ix : List Nat} {vs : List V} {us : List Value} (r : Vals vs us) : Vals (pick ix vs) (pick ix us) := by
  induction ix with
  | nil => exact .nil
  | cons i ix ih =>
    unfold pick
    rw [List.filterMap_cons, List.filterMap_cons]
    cases e : vs[i]? with
    | none =>
      rw [r.none_of e]
      exact ih
    | some v =>
      obtain ⟨u, e2, rv⟩ := r.get e
      rw [e2]
      exact .cons rv ih
def KwBinds (K : PySem.W.Frag) (fd : FuncData) (ps ks : List Str) (ix : List Nat) : Prop := ∀ (s : Shared) (ws : List Value), K.In s.heap → ws.length = ks.length → BindsTo s fd ⟨[], ks.zip ws⟩ (ps.zip (pick ix ws))
theorem pe_callGK (F : FnG X.prog X.w X.K X.mg X.base k f fd ps sp) (hr : Room k X.A) (hgd : X.A.guards = some []) (hg : Gl X x) (hm : X.mg x = some (.ref f)) (hk : PySem.W.keepIn X.K (.ref f) = true) {ix : List Nat} (hb : KwBinds X.K fd ps ks ix)
    (hkw : PK X kws tk) (hall : (backToKw pos (keywordEach kws X.env)).all (·.1.isSome) = true := by rfl) (hks : (backToKw pos (keywordEach kws X.env)).filterMap (·.1) = ks := by rfl) (hdb : (x == ("__debug__" : Str)) = false := by decide) (hpl : ((backTo pos (starEach [] X.env)).any (·.1) || (backToKw pos (keywordEach kws X.env)).any (·.1.isNone)) = false := by rfl) :
    PE X (.Call (.Name x p) [] kws pos) (fun σ H Q => tk σ H fun zs H1 => zs.length = ks.length ∧ sp (pick ix zs) H1 Q E0) := by
  refine ⟨fun pins s σ H Q I h => wpAny_Call_Name_kw (ld_glob I hg hm ?_ hdb)⟩
  refine PySem.W.callWith_KW0 (h₀ := X.base) I.ok.mod.kin hk hall (thn (hkw.run pos pins s σ H _ I h) fun ws s2 ⟨zs, H2, I2, rz, hz, q2⟩ => ⟨I2.kIn, ?_⟩) hpl
  rw [hks]
  exact wpAny_call (codeAny_mono (run_G F hr hgd I2 (hb s2 ws I2.kIn (by rw [← rz.length]; exact hz)) (pick_vals rz) q2) fun r s' hq => by
    rcases r with e | (u | _ | _ | _) <;> exact hq)
end
/-! ## a def of data -/
abbrev FM := List SV → DS → RE PyData
/-- the arguments at hand -/
def ArgsOk (mg : Str → Option Value) (K : PySem.W.Frag) (H : Hp) (O : Addr → Prop) (sa : Option SA) (as : List SV) (vs : List V) : Prop :=
  as.length = vs.length ∧ ∀ (i : Nat) (sv : SV), as[i]? = some sv → ∃ v, vs[i]? = some v ∧ SlotOk mg K H O sa none sv (some v)
/-- «called with these, it hands back what G says; nothing of before changes but the draws' state» -/
def spD (mg : Str → Option Value) (K : PySem.W.Frag) (n : Nat) (G : FM) : Sp := fun vs H Q _ => ∃ (c : Cn) (as : List SV) (w : DS), as.length = n ∧ c.H0 = H ∧ (c.Ok ∧ TkOk K c) ∧ ArgsOk mg K H c.O0 c.sa as vs ∧ StOk c.sa w H ∧
  match G as w with
  | .ok d w' => ∀ v H', Keep (SAd c.sa) H H' → StOk c.sa w' H' → Do K H' c.O0 v d → Q v H'
  | _ => False
theorem spD_len {mg : Str → Option Value} {K : PySem.W.Frag} {n : Nat} {G : FM} {vs : List V} {H : Hp} {Q : VK} {E : XK} (h : spD mg K n G vs H Q E) : vs.length = n := by
  obtain ⟨c, as, w, hn, _, _, ha, _⟩ := h
  rw [← ha.1, hn]
def fnD (N : Nat) (body : SM) : FM := fun as w =>
  match body (as ++ List.replicate (N - as.length) .un) w with
  | .nx _ w1 => .ok .none w1
  | .rt d w1 => .ok d w1
  | _ => .bad
/-- a def's promise by its body's meaning; the code object may be asked for -/
theorem fnD_okM {P : Program} {w : World} {K : PySem.W.Frag} {mg : Str → Option Value} {base : Heap} {k : Nat} {f : Addr} {fd : FuncData} {x qual : Str} {st : Stmt} {N ps : List Str} {body : SM} (F : Fun K x qual st f fd) (S : FnScope N ps (defScope st)) (hpn : ps.length ≤ N.length)
    (hb : ∀ (cdv : Value) (A : Around) (outer : List Env) (s : Shared) (H : Hp) (E : XK) (c : Cn), Room k (A.deeper (envOfC qual (defScope st) s.heap.objs.size f cdv)) → A.guards = some [] → cdv = fd.code → PSs (cxOf CX0 P w K mg base N qual (defScope st) f cdv A outer s H E).nox (defBody st) (tS (dc (cxOf CX0 P w K mg base N qual (defScope st) f cdv A outer s H E).nox c WF) body)) :
    FnG P w K mg base (k + 1) f fd ps (spD mg K ps.length (fnD N.length body)) := by
  refine fn_G F S (fun vs H Q E h => spD_len h) fun cdv A outer s H vs Q E hr hgd hcd h => ?_
  obtain ⟨c, as, wd, hn, h0, ok, ha, hst, hG⟩ := h
  refine ⟨_, hb cdv A outer s H E c hr hgd hcd, [], fun _ => none, as ++ List.replicate (N.length - as.length) .un, wd, ?_, ?_⟩
  · refine ⟨ok.1, ?_, fun i sv e => ?_, by rw [h0]; exact .refl, (fun _ _ e => nomatch e), (fun _ _ _ e => nomatch e), hst, fun p hp => absurd hp (by simp), ok.2⟩
    · unfold L2.start
      rw [List.length_append, List.length_append, List.length_replicate, List.length_replicate, List.length_map, ha.1]
    · have hsub : ∀ b, Ow c.O0 (fun _ => none) b → c.O0 b := fun b z => z.elim id fun ⟨_, z⟩ => nomatch z
      unfold L2.start
      by_cases hi : i < as.length
      · rw [List.getElem?_append_left hi] at e
        obtain ⟨v, ev, q⟩ := ha.2 i sv e
        refine ⟨some v, ?_, ?_⟩
        · rw [List.getElem?_append_left (by rw [List.length_map, ← ha.1]; exact hi), List.getElem?_map, ev]
          rfl
        · exact q.weak hsub fun _ _ => rfl
      · rw [List.getElem?_append_right (by omega)] at e
        have e2 := List.getElem?_eq_some_iff.mp e
        obtain ⟨h1, h2⟩ := e2
        rw [List.getElem_replicate] at h2
        subst h2
        rw [List.length_replicate] at h1
        refine ⟨none, ?_, trivial⟩
        rw [List.getElem?_append_right (by rw [List.length_map, ← ha.1]; omega), List.getElem?_replicate, List.length_map, ← ha.1, if_pos h1]
  · have hG' : match (match body (as ++ List.replicate (N.length - as.length) .un) wd with
      | .nx _ w1 => RE.ok PyData.none w1
      | .rt d w1 => RE.ok d w1
      | _ => RE.bad) with
      | .ok d w' => ∀ v H', Keep (SAd c.sa) H H' → StOk c.sa w' H' → Do K H' c.O0 v d → Q v H'
      | _ => False := hG
    show gS _ (body (as ++ List.replicate (N.length - as.length) .un) wd) [] _
    cases e : body (as ++ List.replicate (N.length - as.length) .un) wd with
    | nx r1 w1 =>
      rw [e] at hG'
      exact fun ow σ H' R => hG' .non H' (h0 ▸ R.keep) R.st .non
    | rt d w1 =>
      rw [e] at hG'
      exact fun v H' kp st dd => hG' v H' (h0 ▸ kp) st dd
    | bk r1 w1 => rw [e] at hG'; exact hG'.elim
    | ct r1 w1 => rw [e] at hG'; exact hG'.elim
    | ex n x w1 => rw [e] at hG'; exact hG'.elim
    | bad => rw [e] at hG'; exact hG'.elim
theorem fnD_ok {P : Program} {w : World} {K : PySem.W.Frag} {mg : Str → Option Value} {base : Heap} {k : Nat} {f : Addr} {fd : FuncData} {x qual : Str} {st : Stmt} {N ps : List Str} {body : SM} (F : Fun K x qual st f fd) (S : FnScope N ps (defScope st)) (hpn : ps.length ≤ N.length)
    (hb : ∀ (cdv : Value) (A : Around) (outer : List Env) (s : Shared) (H : Hp) (E : XK) (c : Cn), Room k (A.deeper (envOfC qual (defScope st) s.heap.objs.size f cdv)) → A.guards = some [] → PSs (cxOf CX0 P w K mg base N qual (defScope st) f cdv A outer s H E).nox (defBody st) (tS (dc (cxOf CX0 P w K mg base N qual (defScope st) f cdv A outer s H E).nox c WF) body)) :
    FnG P w K mg base (k + 1) f fd ps (spD mg K ps.length (fnD N.length body)) :=
  fnD_okM F S hpn fun cdv A outer s H E c hr hgd _ => hb cdv A outer s H E c hr hgd
/-! ## calls -/
abbrev VM := List SV → DS → RE SV
def tV (C : Dc) (f : VM) : TE := fun σ H Q => ∃ P ow r w, C.Rl P ow r w σ H ∧ gE C (fun ow sv v H => SlotOk C.mg C.K H (Ow C.c.O0 ow) C.c.sa none sv (some v)) (f r w) P ow r σ H Q
def vD (f : EM) : VM := fun r w => (f r w).bind fun d w1 => .ok (.val d) w1
def vS (i : Nat) : VM := fun r w =>
  match r[i]? with
  | some (.val d) => .ok (.val d) w
  | some .st => .ok .st w
  | some (.fn x) => .ok (.fn x) w
  | _ => .bad
def vF (x : Str) : VM := fun _ w => .ok (.fn x) w
def aNl : AM := fun _ w => .ok [] w
def aCs (f : VM) (g : AM) : AM := fun r w => (f r w).bind fun d w1 => (g r w1).bind fun ds w2 => .ok (d :: ds) w2
def noEx {α : Type} : RE α → RE α
  | .ok a w => .ok a w
  | _ => .bad
@[simp] theorem noEx_ok {α : Type} (a : α) (w : DS) : noEx (RE.ok a w) = .ok a w := rfl
def eFn (G : FM) (f : AM) : EM := fun r w => (f r w).bind fun as w1 => noEx (G as w1)
section
variable {C : Dc} {σ : L2.St} {H : Hp}
theorem red_vD {f : EM} {Q : VK} (h : tV C (vD f) σ H Q) : tD C f σ H Q := by
  obtain ⟨P, ow, r, w, R, h⟩ := h
  exact ⟨P, ow, r, w, R, gE.bind h fun d w1 v H1 _ k1 R1 p1 h1 => h1 v H1 .refl R1 ⟨v, rfl, p1⟩⟩
theorem red_vS {i : Nat} {Q : VK} (h : tV C (vS i) σ H Q) : tVar i σ H Q := by
  obtain ⟨P, ow, r, w, R, h⟩ := h
  unfold vS at h
  cases e : r[i]? with
  | none => rw [e] at h; exact h.elim
  | some sv =>
    rw [e] at h
    obtain ⟨v, e2, q⟩ := R.slot i _ e
    cases sv with
    | val d =>
      obtain ⟨x, rfl, p⟩ := q
      exact ⟨x, e2, h x H .refl R ⟨x, rfl, p⟩⟩
    | st =>
      obtain ⟨s, es, rfl⟩ := q
      exact ⟨_, e2, h _ H .refl R ⟨s, es, rfl⟩⟩
    | lam => exact h.elim
    | fn x =>
      obtain ⟨f, rfl, em⟩ := q
      exact ⟨_, e2, h _ H .refl R ⟨f, rfl, em⟩⟩
    | un => exact h.elim
    | own _ => exact h.elim
theorem red_vF {x : Str} {f : Addr} (hm : C.mg x = some (.ref f)) {Q : VK} (h : tV C (vF x) σ H Q) : tC (.ref f) σ H Q := by
  obtain ⟨P, ow, r, w, R, h⟩ := h
  exact h _ H .refl R ⟨f, rfl, hm⟩
theorem red_anl {Q : List V → Hp → Prop} (h : tA C aNl σ H Q) : tNil σ H Q := by
  obtain ⟨P, ow, r, w, R, h⟩ := h
  exact h [] H .refl R ⟨rfl, fun i sv e => by simp at e⟩
theorem red_acs {f : VM} {g : AM} {Q : List V → Hp → Prop} (h : tA C (aCs f g) σ H Q) : tCons (tV C f) (tA C g) σ H Q := by
  obtain ⟨P, ow, r, w, R, h⟩ := h
  refine ⟨P, ow, r, w, R, gE.bind h fun d w1 v H1 _ k1 R1 p1 h1 => ?_⟩
  refine ⟨P, ow, r, w1, R1, gE.bind h1 fun ds w2 vs H2 _ k2 R2 p2 h2 => ?_⟩
  have p1' : SlotOk C.mg C.K H2 (Ow C.c.O0 ow) C.c.sa none d (some v) := p1.keep k2 R1.subO fun a e => nomatch e
  refine h2 (v :: vs) H2 .refl R2 ⟨by rw [List.length_cons, List.length_cons, p2.1], fun i sv e => ?_⟩
  cases i with
  | zero =>
    have : d = sv := by simpa using e
    subst this
    exact ⟨v, rfl, p1'⟩
  | succ i =>
    obtain ⟨u, e2, q⟩ := p2.2 i sv (by simpa using e)
    exact ⟨u, by simpa using e2, q⟩
theorem red_fn {G : FM} {f : AM} {n : Nat} (hn : ∀ r w as w1, f r w = .ok as w1 → as.length = n) {Q : VK} {E : XK} (h : tD C (eFn G f) σ H Q) : tA C f σ H fun vs H1 => spD C.mg C.K n G vs H1 Q E := by
  obtain ⟨P, ow, r, w, R, h⟩ := h
  refine ⟨P, ow, r, w, R, gE.bind h fun as w1 vs H1 eq k1 R1 p1 h1 => ?_⟩
  refine ⟨⟨C.c.sa, Ow C.c.O0 ow, H1⟩, as, w1, hn _ _ _ _ eq, rfl, ⟨⟨R1.subO, R1.dom'⟩, R1.tk⟩, p1, R1.st, ?_⟩
  cases e : G as w1 with
  | ok d w' =>
    rw [e] at h1
    exact fun v H' kp st dd => h1 v H' kp (R1.after kp st) dd
  | ex n x w' => rw [e] at h1; exact h1
  | bad => rw [e] at h1; exact h1
end
section
variable {X : Cx} {c : Cn} {W : XW} {pos p : Pos} {x : Str} {e : Expr} {es : List Expr} {k : Nat} {f : Addr} {fd : FuncData} {ps ks : List Str} {G : FM} {fa : AM} {fv : VM} {fe : EM}
theorem vVal (h : PE X e (tD (dc X c W) fe)) : PE X e (tV (dc X c W) (vD fe)) := PE.imp h fun _ _ _ => red_vD
theorem vSl (i : Nat) (h : PE X (.Name x pos) (tVar i)) : PE X (.Name x pos) (tV (dc X c W) (vS i)) := PE.imp h fun _ _ _ => red_vS
theorem vFn {f : Addr} (hg : Gl X x) (hm : X.mg x = some (.ref f)) (hd : (x == ("__debug__" : Str)) = false := by decide) : PE X (.Name x pos) (tV (dc X c W) (vF x)) := PE.imp (pe_glob (v := .ref f) hg hm rfl hd) fun _ _ _ => red_vF (C := dc X c W) hm
theorem avNil : PA X [] (tA (dc X c W) aNl) := PA.imp pa_nil fun _ _ _ => red_anl
theorem avCons (ha : PE X e (tV (dc X c W) fv)) (hr : PA X es (tA (dc X c W) fa)) (hs : starEach (e :: es) X.env = (false, eval e X.env) :: starEach es X.env := by rfl) : PA X (e :: es) (tA (dc X c W) (aCs fv fa)) := PA.imp (pa_cons ha hr hs) fun _ _ _ => red_acs
/-- how many arguments -/
def ArN (n : Nat) (fa : AM) : Prop := ∀ r w as w1, fa r w = .ok as w1 → as.length = n
theorem ArN.nil : ArN 0 aNl := fun r w as w1 h => by unfold aNl at h; cases h; rfl
theorem ArN.cons {n : Nat} (h : ArN n fa) : ArN (n + 1) (aCs fv fa) := fun r w as w1 e => by
  unfold aCs at e
  cases e1 : fv r w with
  | ok d w2 =>
    rw [e1, RE.bind_ok] at e
    cases e2 : fa r w2 with
    | ok ds w3 =>
      rw [e2, RE.bind_ok] at e
      cases e
      rw [List.length_cons, h _ _ _ _ e2]
    | ex _ _ _ => rw [e2] at e; cases e
    | bad => rw [e2] at e; cases e
  | ex _ _ _ => rw [e1] at e; cases e
  | bad => rw [e1] at e; cases e
theorem dFn {n : Nat} (F : FnG X.prog X.w X.K X.mg X.base k f fd ps (spD X.mg X.K n G)) (hr : Room k X.A) (hgd : X.A.guards = some []) (hg : Gl X x) (hm : X.mg x = some (.ref f)) (hk : PySem.W.keepIn X.K (.ref f) = true) (hb : Binds X.K fd ps [])
    (ha : PA X (e :: es) (tA (dc X c W) fa)) (hn : ArN n fa) (hdb : (x == ("__debug__" : Str)) = false := by decide) (he : starEach (e :: es) X.env = (false, eval e X.env) :: starEach es X.env := by rfl) (hpl : (backTo pos (starEach es X.env)).any (·.1) = false := by rfl) :
    PE X (.Call (.Name x p) (e :: es) [] pos) (tD (dc X c W) (eFn G fa)) := PE.imp (pe_callG F hr hgd hg hm hk hb ha hdb he hpl) fun _ _ _ => red_fn (C := dc X c W) hn
theorem dFn0 (F : FnG X.prog X.w X.K X.mg X.base k f fd ps (spD X.mg X.K 0 G)) (hr : Room k X.A) (hgd : X.A.guards = some []) (hg : Gl X x) (hm : X.mg x = some (.ref f)) (hk : PySem.W.keepIn X.K (.ref f) = true) (hb : Binds X.K fd ps [])
    (hdb : (x == ("__debug__" : Str)) = false := by decide) : PE X (.Call (.Name x p) [] [] pos) (tD (dc X c W) (eFn G aNl)) := PE.imp (pe_callG0 F hr hgd hg hm hk hb hdb) fun σ H Q h => red_anl (Q := fun vs H1 => spD X.mg X.K 0 G vs H1 Q E0) (red_fn (C := dc X c W) (E := E0) ArN.nil h)
/-- keywords: the values as they are written, then by the parameters' order -/
theorem kvNil : PK X [] (tA (dc X c W) aNl) := ⟨fun pos pins s σ H Q I h => pk_nil.run pos pins s σ H Q I (red_anl h)⟩
theorem kvCons {nm : Option Str} {kpos : Pos} {kws : List Keyword} (ha : PE X e (tV (dc X c W) fv)) (hr : PK X kws (tA (dc X c W) fa)) : PK X (⟨nm, e, kpos⟩ :: kws) (tA (dc X c W) (aCs fv fa)) := ⟨fun pos pins s σ H Q I h => (pk_cons ha hr).run pos pins s σ H Q I (red_acs h)⟩
def aPk (ix : List Nat) (f : AM) : AM := fun r w => (f r w).bind fun as w1 => .ok (pick ix as) w1
theorem pick_map {α β : Type} {ix : List Nat} {l : List α} {g : α → β} : (pick ix l).map g = pick ix (l.map g) := by
  unfold pick
  induction ix with
  | nil => rfl
  | cons i ix ih =>
    rw [List.filterMap_cons, List.filterMap_cons, List.getElem?_map]
    cases l[i]? with
    | none => exact ih
    | some a => rw [List.map_cons, ih]; rfl
theorem pick_all {P : SV → V → Prop} {as : List SV} {vs : List V} (h : as.length = vs.length) (hp : ∀ (i : Nat) (sv : SV), as[i]? = some sv → ∃ v, vs[i]? = some v ∧ P sv v) : ∀ (ix : List Nat), (pick ix as).length = (pick ix vs).length ∧ ∀ (i : Nat) (sv : SV), (pick ix as)[i]? = some sv → ∃ v, (pick ix vs)[i]? = some v ∧ P sv v
  | [] => ⟨rfl, fun i sv e => by simp [pick] at e⟩
  | j :: ix => by
    obtain ⟨h1, h2⟩ := pick_all h hp ix
    unfold pick at h1 h2 ⊢
    rw [List.filterMap_cons, List.filterMap_cons]
    cases e : as[j]? with
    | none =>
      have e2 : vs[j]? = none := List.getElem?_eq_none (by have := List.getElem?_eq_none_iff.mp e; omega)
      rw [e2]
      exact ⟨h1, h2⟩
    | some a =>
      obtain ⟨v, e2, q⟩ := hp j a e
      rw [e2]
      refine ⟨by simp only [List.length_cons]; rw [h1], fun i sv ei => ?_⟩
      cases i with
      | zero =>
        have : a = sv := by simpa using ei
        subst this
        exact ⟨v, rfl, q⟩
      | succ i => obtain ⟨u, e3, q3⟩ := h2 i sv (by simpa using ei); exact ⟨u, by simpa using e3, q3⟩
theorem red_fnK {C : Dc} {σ : L2.St} {H : Hp} {G : FM} {f : AM} {n m : Nat} {ix : List Nat} (hn : ArN m f) (hn2 : ∀ l : List SV, l.length = m → (pick ix l).length = n) {Q : VK} {E : XK} (h : tD C (eFn G (aPk ix f)) σ H Q) : tA C f σ H fun vs H1 => vs.length = m ∧ spD C.mg C.K n G (pick ix vs) H1 Q E := by
  obtain ⟨P, ow, r, w, R, h⟩ := h
  have h' : gE C (fD C) ((f r w).bind fun as w1 => noEx (G (pick ix as) w1)) P ow r σ H Q := by
    have e : eFn G (aPk ix f) r w = (f r w).bind fun as w1 => noEx (G (pick ix as) w1) := by
      unfold eFn aPk
      cases f r w <;> rfl
    rw [e] at h
    exact h
  refine ⟨P, ow, r, w, R, gE.bind h' fun as w1 vs H1 eq k1 R1 p1 h1 => ?_⟩
  have hl := hn _ _ _ _ eq
  have pa := pick_all p1.1 p1.2 ix
  refine ⟨by rw [← p1.1, hl], ⟨C.c.sa, Ow C.c.O0 ow, H1⟩, pick ix as, w1, hn2 as hl, rfl, ⟨⟨R1.subO, R1.dom'⟩, R1.tk⟩, pa, R1.st, ?_⟩
  cases e : G (pick ix as) w1 with
  | ok d w' =>
    rw [e] at h1
    exact fun v H' kp st dd => h1 v H' kp (R1.after kp st) dd
  | ex n x w' => rw [e] at h1; exact h1
  | bad => rw [e] at h1; exact h1
theorem dFnK {n m : Nat} {ix : List Nat} {kws : List Keyword} (F : FnG X.prog X.w X.K X.mg X.base k f fd ps (spD X.mg X.K n G)) (hr : Room k X.A) (hgd : X.A.guards = some []) (hg : Gl X x) (hm : X.mg x = some (.ref f)) (hk : PySem.W.keepIn X.K (.ref f) = true) (hb : KwBinds X.K fd ps ks ix)
    (hkw : PK X kws (tA (dc X c W) fa)) (hn : ArN m fa) (hm2 : ks.length = m) (hn2 : ∀ l : List SV, l.length = m → (pick ix l).length = n) (hall : (backToKw pos (keywordEach kws X.env)).all (·.1.isSome) = true := by rfl) (hks : (backToKw pos (keywordEach kws X.env)).filterMap (·.1) = ks := by rfl) (hdb : (x == ("__debug__" : Str)) = false := by decide)
    (hpl : ((backTo pos (starEach [] X.env)).any (·.1) || (backToKw pos (keywordEach kws X.env)).any (·.1.isNone)) = false := by rfl) :
    PE X (.Call (.Name x p) [] kws pos) (tD (dc X c W) (eFn G (aPk ix fa))) := by
  subst hm2
  exact PE.imp (pe_callGK F hr hgd hg hm hk hb hkw hall hks hdb hpl) fun _ _ _ => red_fnK (C := dc X c W) hn hn2
end
end DL

namespace DL
open L2 PySem PySem.Spec PyProof.Rows
/-! ## built-ins on data -/
def lenD : List PyData → Option PyData
  | [.str x] => if x.length ≤ szL then some (.int (x.length : Nat)) else none
  | [.list ds] => some (.int (ds.length : Nat))
  | [.tuple ds] => some (.int (ds.length : Nat))
  | _ => none
def intD : List PyData → Option PyData
  | [.int i] => some (.int i)
  | [.bool b] => some (.int (if b then 1 else 0))
  | _ => none
def tupleD : List PyData → Option PyData
  | [.list ds] => some (.tuple ds)
  | [.tuple ds] => some (.tuple ds)
  | _ => none
def listD : List PyData → Option PyData
  | [.list ds] => some (.list ds)
  | [.tuple ds] => some (.list ds)
  | _ => none
/-- into an ascending list -/
def ins (x : Int) : List Int → List Int
  | [] => [x]
  | y :: r => if x ≤ y then x :: y :: r else y :: ins x r
def isort : List Int → List Int
  | [] => []
  | x :: r => ins x (isort r)
def sortD : List PyData → Option PyData
  | [.list ds] => (toInts ds).map fun ns => .list ((isort ns).map PyData.int)
  | _ => none
def sumD : List PyData → Option PyData
  | [.list ds] => (toInts ds).map fun ns => .int ns.sum
  | _ => none
def maxD : List PyData → Option PyData
  | [.int a, .int b] => some (.int (if b > a then b else a))
  | _ => none
def minD : List PyData → Option PyData
  | [.int a, .int b] => some (.int (if b < a then b else a))
  | _ => none
theorem ins_perm (x : Int) : ∀ l : List Int, (ins x l).Perm (x :: l)
  | [] => .refl _
  | y :: r => by
    unfold ins
    by_cases h : x ≤ y
    · rw [if_pos h]
    · rw [if_neg h]
      exact ((ins_perm x r).cons y).trans (.swap x y r)
theorem isort_perm : ∀ l : List Int, (isort l).Perm l
  | [] => .refl _
  | x :: r => by
    unfold isort
    exact (ins_perm x (isort r)).trans ((isort_perm r).cons x)
theorem ins_sorted (x : Int) : ∀ l : List Int, l.Pairwise (· ≤ ·) → (ins x l).Pairwise (· ≤ ·)
  | [], _ => by simp [ins]
  | y :: r, h => by
    unfold ins
    have hy := List.pairwise_cons.mp h
    by_cases hx : x ≤ y
    · rw [if_pos hx]
      refine List.pairwise_cons.mpr ⟨fun z hz => ?_, h⟩
      rcases List.mem_cons.mp hz with e | e
      · rw [e]; exact hx
      · exact Int.le_trans hx (hy.1 z e)
    · rw [if_neg hx]
      refine List.pairwise_cons.mpr ⟨fun z hz => ?_, ins_sorted x r hy.2⟩
      rcases List.mem_cons.mp ((ins_perm x r).mem_iff.mp hz) with e | e
      · rw [e]; omega
      · exact hy.1 z e
theorem isort_sorted : ∀ l : List Int, (isort l).Pairwise (· ≤ ·)
  | [] => .nil
  | x :: r => by unfold isort; exact ins_sorted x _ (isort_sorted r)
theorem sorted_unique : ∀ {l m : List Int}, l.Perm m → l.Pairwise (· ≤ ·) → m.Pairwise (· ≤ ·) → l = m
  | [], m, p, _, _ => p.nil_eq
  | x :: l, [], p, _, _ => absurd p.length_eq (by simp)
  | x :: l, y :: m, p, h1, h2 => by
    have a := List.pairwise_cons.mp h1
    have b := List.pairwise_cons.mp h2
    have e : x = y := by
      have hx : x ∈ y :: m := p.mem_iff.mp (List.mem_cons_self ..)
      have hy : y ∈ x :: l := p.mem_iff.mpr (List.mem_cons_self ..)
      rcases List.mem_cons.mp hx with e | e
      · exact e
      · rcases List.mem_cons.mp hy with e' | e'
        · exact e'.symm
        · have := b.1 x e
          have := a.1 y e'
          omega
    subst e
    rw [sorted_unique (p.cons_inv) a.2 b.2]
section
variable {X : Cx}
theorem data_call {f : Value} {g : List PyData → Option PyData} {r : List V → Hp → VK → Prop} (ho : CallR X f r) (h : ∀ (xs : List V) (H : Hp) (Q : VK) (ds : List PyData) (z : PyData) (O : Addr → Prop), (∀ b, O b → ∃ o, H b = some o) → DoAll X.K H O xs ds → g ds = some z → (∀ v H', Same H H' → Do X.K H' O v z → Q v H') → r xs H Q) : CallR X f (rDs X.K g) := by
  intro pins s σ H xs us Q I rx q
  obtain ⟨O, ds, z, dom, hd, hg, q⟩ := q
  exact ho pins s σ H xs us Q I rx (h xs H Q ds z O dom hd hg q)
theorem one_do {H : Hp} {O : Addr → Prop} {K : PySem.W.Frag} {xs : List V} {d : PyData} (h : DoAll K H O xs [d]) : ∃ v, xs = [v] ∧ Do K H O v d := by
  cases h with
  | cons h t => cases t; exact ⟨_, rfl, h⟩
theorem two_do {H : Hp} {O : Addr → Prop} {K : PySem.W.Frag} {xs : List V} {d e : PyData} (h : DoAll K H O xs [d, e]) : ∃ v u, xs = [v, u] ∧ Do K H O v d ∧ Do K H O u e := by
  cases h with
  | cons h t =>
    obtain ⟨u, rfl, q⟩ := one_do t
    exact ⟨_, u, rfl, h, q⟩
theorem one_of {g : PyData → Option PyData} {ds : List PyData} {z : PyData} {G : List PyData → Option PyData} (h : G ds = some z) (h0 : G [] = none) (h1 : ∀ d e r, G (d :: e :: r) = none) : ∃ d, ds = [d] := by
  cases ds with
  | nil => rw [h0] at h; cases h
  | cons d r =>
    cases r with
    | nil => exact ⟨d, rfl⟩
    | cons e r => rw [h1] at h; cases h
theorem c_len : CallR X (.builtin "len") (rDs X.K lenD) := by
  refine data_call call_len fun xs H Q ds z O dom hd hg q => ?_
  obtain ⟨d, rfl⟩ := one_of (g := fun _ => none) hg rfl fun d e r => by cases d <;> rfl
  obtain ⟨v, rfl, p⟩ := one_do hd
  cases d with
  | str x =>
    simp only [lenD] at hg
    by_cases hl : x.length ≤ szL
    · rw [if_pos hl] at hg; cases hg; cases p
      exact ⟨_, _, rfl, ⟨Nat.le_trans hl szL_le, rfl⟩, q _ _ (Same.refl _) (.int _)⟩
    · rw [if_neg hl] at hg; cases hg
  | list ys =>
    simp only [lenD] at hg; cases hg
    cases p with
    | lst hx n ha => exact ⟨_, _, rfl, .inl ⟨_, SqL.of hx, rfl⟩, by rw [ha.length]; exact q _ _ (Same.refl _) (.int _)⟩
  | tuple ys =>
    simp only [lenD] at hg; cases hg
    cases p with
    | tup hx _ ha => exact ⟨_, _, rfl, .inr ⟨_, hx, rfl⟩, by rw [ha.length]; exact q _ _ (Same.refl _) (.int _)⟩
  | _ => cases hg
theorem c_int : CallR X (.type "int") (rDs X.K intD) := by
  refine data_call call_int1 fun xs H Q ds z O dom hd hg q => ?_
  obtain ⟨d, rfl⟩ := one_of (g := fun _ => none) hg rfl fun d e r => by cases d <;> rfl
  obtain ⟨v, rfl, p⟩ := one_do hd
  cases d with
  | int i => simp only [intD] at hg; cases hg; cases p; exact .inl ⟨_, rfl, q _ _ (Same.refl _) (.int _)⟩
  | bool b => simp only [intD] at hg; cases hg; cases p; exact .inr ⟨_, rfl, q _ _ (Same.refl _) (.int _)⟩
  | _ => cases hg
theorem c_tuple : CallR X (.type "tuple") (rDs X.K tupleD) := by
  refine data_call call_tuple_of fun xs H Q ds z O dom hd hg q => ?_
  obtain ⟨d, rfl⟩ := one_of (g := fun _ => none) hg rfl fun d e r => by cases d <;> rfl
  obtain ⟨v, rfl, p⟩ := one_do hd
  cases d with
  | list ys =>
    simp only [tupleD] at hg; cases hg
    cases p with
    | lst hx n ha => exact ⟨_, _, rfl, .inl ⟨SqL.of hx, fun l hl => q _ _ (same_new hl) (do_new_tup hl ha)⟩⟩
  | tuple ys =>
    simp only [tupleD] at hg; cases hg
    cases p with
    | tup hx zx ha => exact ⟨_, _, rfl, .inr ⟨hx, q _ _ (Same.refl _) (.tup hx zx ha)⟩⟩
  | _ => cases hg
theorem c_list : CallR X (.type "list") (rDs X.K listD) := by
  refine data_call call_list_of fun xs H Q ds z O dom hd hg q => ?_
  obtain ⟨d, rfl⟩ := one_of (g := fun _ => none) hg rfl fun d e r => by cases d <;> rfl
  obtain ⟨v, rfl, p⟩ := one_do hd
  cases d with
  | list ys =>
    simp only [listD] at hg; cases hg
    cases p with
    | lst hx n ha => exact ⟨_, _, rfl, .inl (SqL.of hx), fun l hl => q _ _ (same_new hl) (do_new_lst dom hl ha)⟩
  | tuple ys =>
    simp only [listD] at hg; cases hg
    cases p with
    | tup hx _ ha => exact ⟨_, _, rfl, .inr hx, fun l hl => q _ _ (same_new hl) (do_new_lst dom hl ha)⟩
  | _ => cases hg
theorem c_sorted : CallR X (.builtin "sorted") (rDs X.K sortD) := by
  refine data_call cr_sortedI fun xs H Q ds z O dom hd hg q => ?_
  obtain ⟨d, rfl⟩ := one_of (g := fun _ => none) hg rfl fun d e r => by cases d <;> rfl
  obtain ⟨v, rfl, p⟩ := one_do hd
  cases d with
  | list ys =>
    simp only [sortD] at hg
    cases e : toInts ys with
    | none => rw [e] at hg; cases hg
    | some ns =>
      rw [e] at hg
      cases hg
      cases p with
      | lst hx n ha =>
        have q1 := toInts_do ha e
        subst q1
        refine ⟨_, ns, rfl, SqL.of hx, fun ns' l hp hs hl => ?_⟩
        have q2 : ns' = isort ns := sorted_unique (hp.trans (isort_perm ns).symm) hs (isort_sorted ns)
        subst q2
        exact q _ _ (same_new hl) (do_new_lst dom hl (DoAll.ints _))
  | _ => cases hg
theorem c_sum (hc : X.calm = true) : CallR X (.builtin "sum") (rDs X.K sumD) := by
  refine data_call (cr_sum hc) fun xs H Q ds z O dom hd hg q => ?_
  obtain ⟨d, rfl⟩ := one_of (g := fun _ => none) hg rfl fun d e r => by cases d <;> rfl
  obtain ⟨v, rfl, p⟩ := one_do hd
  cases d with
  | list ys =>
    simp only [sumD] at hg
    cases e : toInts ys with
    | none => rw [e] at hg; cases hg
    | some ns =>
      rw [e] at hg
      cases hg
      cases p with
      | lst hx n ha =>
        have q1 := toInts_do ha e
        subst q1
        exact ⟨_, ns, rfl, SqL.of hx, q _ _ (Same.refl _) (.int _)⟩
  | _ => cases hg
theorem c_max (hc : X.calm = true) : CallR X (.builtin "max") (rDs X.K maxD) := by
  refine data_call (call_max2 hc) fun xs H Q ds z O dom hd hg q => ?_
  match ds, hg, hd with
  | [.int a, .int b], hg, hd =>
    obtain ⟨v, u, rfl, p1, p2⟩ := two_do hd
    simp only [maxD] at hg
    cases hg; cases p1; cases p2
    exact ⟨a, b, rfl, q _ _ (Same.refl _) (.int _)⟩
theorem c_min (hc : X.calm = true) : CallR X (.builtin "min") (rDs X.K minD) := by
  refine data_call (call_min2 hc) fun xs H Q ds z O dom hd hg q => ?_
  match ds, hg, hd with
  | [.int a, .int b], hg, hd =>
    obtain ⟨v, u, rfl, p1, p2⟩ := two_do hd
    simp only [minD] at hg
    cases hg; cases p1; cases p2
    exact ⟨a, b, rfl, q _ _ (Same.refl _) (.int _)⟩
theorem o_mul : OpR X (binaryOp .Mult) (rD2 X.K mulD) := by
  refine two_ints (OpR.or op_mul (OpR.or op_repT op_rep)) fun x y H Q d e z O dom hd he hg q => ?_
  have rep : ∀ {xs : List V} {ds : List PyData} (n : Nat), DoAll X.K H O xs ds → DoAll X.K H O (List.replicate n xs).flatten (List.replicate n ds).flatten := by
    intro xs ds n h
    induction n with
    | zero => exact .nil
    | succ n ih => rw [List.replicate_succ, List.replicate_succ, List.flatten_cons, List.flatten_cons]; exact h.append ih
  cases e with
  | int b =>
    cases d with
    | int a =>
      simp only [mulD] at hg
      by_cases hc : (-(2 ^ 64) < a ∧ a < 2 ^ 64) ∨ (-(2 ^ 64) < b ∧ b < 2 ^ 64)
      · rw [if_pos hc] at hg; cases hg; cases hd; cases he
        exact .inl ⟨a, b, rfl, rfl, hc, q _ _ (Same.refl _) (.int _)⟩
      · rw [if_neg hc] at hg; cases hg
    | tuple a =>
      simp only [mulD] at hg
      by_cases hc : a ≠ [] ∧ 2 ≤ b ∧ b ≤ 1000 ∧ a.length ≤ 1000
      · rw [if_pos hc] at hg; cases hg; cases he
        cases hd with
        | tup hx _ ha =>
          exact .inr (.inl ⟨_, b, _, rfl, rfl, hx, fun z => hc.1 (ha.nil_iff.mp z), hc.2.1, hc.2.2.1, by rw [ha.length]; exact hc.2.2.2, fun p hp => q _ _ (same_new hp) (do_new_tup hp (rep _ ha))⟩)
      · rw [if_neg hc] at hg; cases hg
    | list a =>
      simp only [mulD] at hg
      by_cases hc : 0 ≤ b ∧ b ≤ 1000 ∧ a.length ≤ 1000
      · rw [if_pos hc] at hg; cases hg; cases he
        cases hd with
        | lst hx n ha =>
          refine .inr (.inr ⟨_, b, _, rfl, rfl, hx, by omega, by omega, ?_, fun p hp => q _ _ (same_new hp) (do_new_lst dom hp (rep _ ha))⟩)
          rw [ha.length, sizeLine_eq]
          have h1 : b.toNat ≤ 1000 := by omega
          calc a.length * b.toNat ≤ 1000 * 1000 := Nat.mul_le_mul hc.2.2 h1
            _ ≤ 16777216 := by decide
      · rw [if_neg hc] at hg; cases hg
    | _ => simp only [mulD] at hg; cases hg
  | _ => cases d <;> (simp only [mulD] at hg; cases hg)
/-! ## subscripts, slices -/
def ixD : PyData → PyData → Option PyData
  | .list ds, .int i => atI ds i
  | .tuple ds, .int i => atI ds i
  | _, _ => none
theorem atI_do {K : PySem.W.Frag} {H : Hp} {O : Addr → Prop} {xs : List V} {ds : List PyData} {i : Int} {d : PyData} (h : DoAll K H O xs ds) (e : atI ds i = some d) : ∃ v, atI xs i = some v ∧ Do K H O v d := by
  unfold atI at e ⊢
  rw [h.length]
  cases q : ixN ds.length i with
  | none => rw [q] at e; cases e
  | some j =>
    rw [q] at e
    exact h.get e
theorem x_ix : IxR X (rD2 X.K ixD) := by
  intro value slice pins s σ H x y v u Q I rx ry h hs
  obtain ⟨O, d, e, z, dom, hd, he, hg, q⟩ := h
  refine (IxR.or ix_list ix_tup) value slice pins s σ H x y v u Q I rx ry ?_ hs
  cases e with
  | int i =>
    cases he
    cases d with
    | list ds =>
      cases hd with
      | lst hx n ha =>
        obtain ⟨w, e, p⟩ := atI_do ha hg
        exact .inl ⟨_, _, i, w, rfl, rfl, SqL.of hx, e, q _ _ (Same.refl _) p⟩
    | tuple ds =>
      cases hd with
      | tup hx _ ha =>
        obtain ⟨w, e, p⟩ := atI_do ha hg
        exact .inr ⟨_, _, i, w, rfl, rfl, hx, e, q _ _ (Same.refl _) p⟩
    | _ => cases hg
  | _ => cases d <;> cases hg
def cutD (ds : List PyData) (lo hi : Option Int) : List PyData := (ds.drop (HT.sIx ds.length 0 lo)).take (HT.sIx ds.length ds.length hi - HT.sIx ds.length 0 lo)
def slD (d : PyData) (lo hi : Option Int) : Option PyData :=
  match d with
  | .list ds => some (.list (cutD ds lo hi))
  | .tuple ds => some (.tuple (cutD ds lo hi))
  | _ => none
theorem cut_do {K : PySem.W.Frag} {H : Hp} {O : Addr → Prop} {xs : List V} {ds : List PyData} {lo hi : Option Int} (h : DoAll K H O xs ds) : DoAll K H O (cutV xs lo hi) (cutD ds lo hi) := by
  unfold cutV cutD
  rw [h.length]
  exact (h.drop _).take _
def rSl (K : PySem.W.Frag) : V → Option Int → Option Int → Hp → VK → Prop := fun x lo hi H Q => ∃ (O : Addr → Prop) (d z : PyData), (∀ b, O b → ∃ o, H b = some o) ∧ Do K H O x d ∧ slD d lo hi = some z ∧ ∀ v H', Same H H' → Do K H' O v z → Q v H'
theorem x_sl : SlR X (rSl X.K) := by
  intro pins s σ H x v vl vu lo hi sl Q I rx hs pl pu h
  obtain ⟨O, d, z, dom, hd, hg, q⟩ := h
  refine (SlR.or sl_list sl_tupA) pins s σ H x v vl vu lo hi sl Q I rx hs pl pu ?_
  cases d with
  | list ds =>
    simp only [slD] at hg; cases hg
    cases hd with
    | lst hx n ha => exact .inl ⟨_, _, rfl, SqL.of hx, fun p hp => q _ _ (same_new hp) (do_new_lst dom hp (cut_do ha))⟩
  | tuple ds =>
    simp only [slD] at hg; cases hg
    cases hd with
    | tup hx zx ha =>
      refine .inr ⟨_, _, rfl, hx, fun hw => ?_, fun hw p hp => q _ _ (same_new hp) (do_new_tup hp (cut_do ha))⟩
      have e : cutD ds lo hi = ds := by
        rw [ha.length] at hw
        unfold cutD
        rw [hw.1, hw.2, List.drop_zero, Nat.sub_zero, List.take_length]
      rw [e] at q
      exact q _ _ (Same.refl _) (.tup hx zx ha)
  | _ => simp only [slD] at hg; cases hg
end
/-- a slice's part: none, or an int -/
abbrev PM := List SV → DS → RE (Option Int)
def pNo : PM := fun _ w => .ok none w
def pSo (f : EM) : PM := fun r w => (f r w).bind fun d w1 =>
  match d with
  | .int i => .ok (some i) w1
  | _ => .bad
def eSl (f : EM) (pl ph : PM) : EM := fun r w => (f r w).bind fun d w1 => (pl r w1).bind fun lo w2 => (ph r w2).bind fun hi w3 => opt (slD d lo hi) w3
def tO (C : Dc) (f : PM) : TO := fun σ H Q => ∃ P ow r w, C.Rl P ow r w σ H ∧ gE C (fun _ a b _ => a = b) (f r w) P ow r σ H Q
/-- type(x) is T, type(x) is not T -/
def tyN : PyData → String
  | .none => "NoneType"
  | .bool _ => "bool"
  | .int _ => "int"
  | .str _ => "str"
  | .list _ => "list"
  | .tuple _ => "tuple"
  | .dict _ => "dict"
def eTyIs (T : String) (f : EM) : EM := fun r w => (f r w).bind fun d w1 => .ok (.bool (decide (tyN d = T))) w1
def eTyNot (T : String) (f : EM) : EM := fun r w => (f r w).bind fun d w1 => .ok (.bool (!decide (tyN d = T))) w1
def eChain (g g' : PyData → PyData → Option PyData) (fa fb fc : EM) : EM := fun r w => (fa r w).bind fun d w1 => (fb r w1).bind fun e w2 =>
  match g d e with
  | some (.bool true) => (fc r w2).bind fun z w3 => opt (g' e z) w3
  | some (.bool false) => .ok (.bool false) w2
  | _ => .bad
section
variable {C : Dc} {σ : L2.St} {H : Hp}
theorem red_pNo {Q : Option Int → Hp → Prop} (h : tO C pNo σ H Q) : tNoPart σ H Q := by
  obtain ⟨P, ow, r, w, R, h⟩ := h
  exact h none H .refl R rfl
theorem red_pSo {f : EM} {Q : Option Int → Hp → Prop} (h : tO C (pSo f) σ H Q) : tPart (tD C f) σ H Q := by
  obtain ⟨P, ow, r, w, R, h⟩ := h
  refine ⟨P, ow, r, w, R, gE.bind h fun d w1 v H1 _ k1 R1 p1 h1 => ?_⟩
  cases d with
  | int i => cases p1; exact ⟨i, rfl, h1 (some i) H1 .refl R1 rfl⟩
  | _ => exact h1.elim
theorem red_sl {f : EM} {pl ph : PM} {Q : VK} (h : tD C (eSl f pl ph) σ H Q) : tSl (rSl C.K) (tD C f) (tO C pl) (tO C ph) σ H Q := by
  obtain ⟨P, ow, r, w, R, h⟩ := h
  refine ⟨P, ow, r, w, R, gE.bind h fun d w1 v H1 _ k1 R1 p1 h1 => ?_⟩
  refine ⟨P, ow, r, w1, R1, gE.bind h1 fun lo w2 lo' H2 _ k2 R2 p2 h2 => ?_⟩
  cases p2
  refine ⟨P, ow, r, w2, R2, gE.bind h2 fun hi w3 hi' H3 _ k3 R3 p3 h3 => ?_⟩
  cases p3
  cases hg : slD d lo hi with
  | none => rw [hg] at h3; exact h3.elim
  | some z =>
    rw [hg] at h3
    refine ⟨Ow C.c.O0 ow, d, z, R3.dom', Do.keep (k2.trans k3) R.subO p1, hg, fun x H' s q => ?_⟩
    have st := step_same R3 s
    exact h3 x H' st.1 st.2 q
/-- of which type: dicts with tuples as keys, too -/
def TyE (K : PySem.W.Frag) (H : Hp) (v : V) (T : String) : Prop := TyB K H v T ∨ ∃ (a : Addr) (kvs : List (List Key × V)), v = .ref a ∧ H a = some (.dT kvs) ∧ T = "dict"
def rTypE (K : PySem.W.Frag) : List V → Hp → VK → Prop := fun xs H Q => ∃ x T, xs = [x] ∧ TyE K H x T ∧ Q (.ty T) H
theorem call_typeE {X : Cx} : CallR X (.type "type") (rTypE X.K) := fun pins s σ H xs us Q I r h => by
  obtain ⟨x, T, rfl, t, q⟩ := h
  rcases t with t | ⟨a, kvs, rfl, e, rfl⟩
  · exact call_type1 pins s σ H _ us Q I r ⟨x, T, rfl, t, q⟩
  · obtain ⟨u, rfl, rx⟩ := vals1 r
    cases (show u = Value.ref a from rx)
    have p : ObjOk X.prog X.w H s.heap a (.dT kvs) := I.hok a _ e
    obtain ⟨_, _, _, _, o, _, _, h1, h2, _⟩ := p
    have ty : s.TypeIs (.ref a) "dict" := ⟨o, h1, h2.1⟩
    exact PySem.call_type_of ty (by decide +kernel) ⟨.ty "dict", H, I, rfl, q⟩
theorem tyB {K : PySem.W.Frag} {O : Addr → Prop} {v : V} {d : PyData} (h : Do K H O v d) : TyE K H v (tyN d) := by
  cases h with
  | non => exact .inl .non
  | bl b => exact .inl (.bl b)
  | int i => exact .inl (.int i)
  | str x => exact .inl (.str x)
  | lst hx _ _ => exact .inl (.lst (SqL.of hx))
  | tup hx _ _ => exact .inl (.tup hx)
  | dcK _ hx _ _ _ => exact .inl (.dK hx)
  | dcT _ hx _ _ _ => exact .inr ⟨_, _, rfl, hx, rfl⟩
theorem red_tyIs {T : String} {f : EM} {Q : VK} (h : tD C (eTyIs T f) σ H Q) : tOp (fun x y H Q => ∃ m n, x = .ty m ∧ y = .ty n ∧ Q (.bl (decide (m = n))) H) (tCB (rTypE C.K) (tCons (tD C f) tNil)) (tC (.ty T)) σ H Q := by
  obtain ⟨P, ow, r, w, R, h⟩ := h
  refine ⟨P, ow, r, w, R, gE.bind h fun d w1 v H1 _ k1 R1 p1 h1 => ?_⟩
  exact ⟨v, _, rfl, tyB p1, _, _, rfl, rfl, h1 _ H1 .refl R1 (.bl _)⟩
theorem red_tyNot {T : String} {f : EM} {Q : VK} (h : tD C (eTyNot T f) σ H Q) : tOp (fun x y H Q => ∃ m n, x = .ty m ∧ y = .ty n ∧ Q (.bl (!decide (m = n))) H) (tCB (rTypE C.K) (tCons (tD C f) tNil)) (tC (.ty T)) σ H Q := by
  obtain ⟨P, ow, r, w, R, h⟩ := h
  refine ⟨P, ow, r, w, R, gE.bind h fun d w1 v H1 _ k1 R1 p1 h1 => ?_⟩
  exact ⟨v, _, rfl, tyB p1, _, _, rfl, rfl, h1 _ H1 .refl R1 (.bl _)⟩
theorem red_chain {g g' : PyData → PyData → Option PyData} {fa fb fc : EM} {Q : VK} (h : tD C (eChain g g' fa fb fc) σ H Q) : tChain (rD2 C.K g) (rD2 C.K g') (tD C fa) (tD C fb) (tD C fc) σ H Q := by
  obtain ⟨P, ow, r, w, R, h⟩ := h
  refine ⟨P, ow, r, w, R, gE.bind h fun d w1 v H1 _ k1 R1 p1 h1 => ?_⟩
  refine ⟨P, ow, r, w1, R1, gE.bind h1 fun e w2 u H2 _ k2 R2 p2 h2 => ?_⟩
  have h3 : gE C (fD C) (match g d e with
    | some (.bool true) => (fc r w2).bind fun z w3 => opt (g' e z) w3
    | some (.bool false) => .ok (.bool false) w2
    | _ => .bad) P ow r σ H2 Q := h2
  cases hg : g d e with
  | none => rw [hg] at h3; exact h3.elim
  | some z =>
    rw [hg] at h3
    cases z with
    | bool b =>
      refine ⟨Ow C.c.O0 ow, d, e, .bool b, R2.dom', Do.keep k2 R.subO p1, p2, hg, fun x H' s q => ?_⟩
      cases q
      have st := step_same R2 s
      refine ⟨b, rfl, ?_⟩
      cases b with
      | true =>
        have h4 : gE C (fD C) ((fc r w2).bind fun z w3 => opt (g' e z) w3) P ow r σ H2 Q := h3
        have h5 : gE C (fD C) ((fc r w2).bind fun z w3 => opt (g' e z) w3) P ow r σ H' Q := by
          cases e5 : (fc r w2).bind fun z w3 => opt (g' e z) w3 with
          | ok a w9 => rw [e5] at h4; exact fun v9 H9 k9 R9 p9 => h4 v9 H9 (st.1.trans k9) R9 p9
          | ex n x9 w9 => rw [e5] at h4; exact fun H9 k9 R9 => h4 H9 (st.1.trans k9) R9
          | bad => rw [e5] at h4; exact h4
        refine ⟨P, ow, r, w2, st.2, gE.bind h5 fun z w3 y H3 _ k3 R3 p3 h6 => ?_⟩
        cases hg2 : g' e z with
        | none => rw [hg2] at h6; exact h6.elim
        | some z2 =>
          rw [hg2] at h6
          refine ⟨Ow C.c.O0 ow, e, z, z2, R3.dom', Do.keep (st.1.trans k3) R2.subO p2, p3, hg2, fun x H9 s9 q9 => ?_⟩
          have st9 := step_same R3 s9
          exact h6 x H9 st9.1 st9.2 q9
      | false =>
        rw [if_neg Bool.false_ne_true]
        exact h3 _ H' st.1 st.2 (.bl false)
    | _ => exact h3.elim
end
section
variable {X : Cx} {c : Cn} {W : XW} {a b e : Expr} {fa fb fc f : EM} {pl ph : PM} {pos p : Pos} {lo hi : Option Expr}
theorem poNo : PO X none (tO (dc X c W) pNo) := ⟨fun pins s σ H Q I h => po_none.run pins s σ H Q I (red_pNo h)⟩
theorem poSo (h : PE X e (tD (dc X c W) f)) : PO X (some e) (tO (dc X c W) (pSo f)) := ⟨fun pins s σ H Q I q => (po_some h).run pins s σ H Q I (red_pSo q)⟩
theorem dSl {p2 : Pos} (he : PE X e (tD (dc X c W) f)) (hl : PO X lo (tO (dc X c W) pl)) (hu : PO X hi (tO (dc X c W) ph)) : PE X (.Subscript e (.Slice lo hi none p2) pos) (tD (dc X c W) (eSl f pl ph)) := PE.imp (pe_slice x_sl he hl hu) fun _ _ _ => red_sl
theorem dIx (ha : PE X a (tD (dc X c W) fa)) (hb : PE X b (tD (dc X c W) fb)) (hs : PlainIx b := by exact fun _ _ => rfl) : PE X (.Subscript a b pos) (tD (dc X c W) (eBin ixD fa fb)) := PE.imp (pe_ix x_ix ha hb hs) fun _ _ _ => red_bin
theorem dChain {op op' : CmpOp} {g g' : PyData → PyData → Option PyData} {z : Expr} (ho : OpR X (compareOp op) (rD2 X.K g)) (ho' : OpR X (compareOp op') (rD2 X.K g')) (ha : PE X a (tD (dc X c W) fa)) (hb : PE X b (tD (dc X c W) fb)) (hc : PE X z (tD (dc X c W) fc))
    (hm : lastMarks [op, op'] [b, z] = false := by with_unfolding_all rfl) : PE X (.Compare a [op, op'] [b, z] pos) (tD (dc X c W) (eChain g g' fa fb fc)) := PE.imp (pe_chain ho ho' ha hb hc hm) fun _ _ _ => red_chain
theorem tChainT {op op' : CmpOp} {g g' : PyData → PyData → Option PyData} {z : Expr} (ho : OpR X (compareOp op) (rD2 X.K g)) (ho' : OpR X (compareOp op') (rD2 X.K g')) (ha : PE X a (tD (dc X c W) fa)) (hb : PE X b (tD (dc X c W) fb)) (hc : PE X z (tD (dc X c W) fc))
    (hm : lastMarks [op, op'] [b, z] = false := by with_unfolding_all rfl) : PT X (.Compare a [op, op'] [b, z] pos) (tT (dc X c W) (isB (eChain g g' fa fb fc))) := PT.imp (pt_chain ho ho' ha hb hc hm) fun _ _ _ h => red_chain (red_isB h)
theorem dTyIs {x y : Str} {T : String} {p1 p2 : Pos} (hg : Gl X x) (hm : X.mg x = none) (hv : bootBuiltins x = some (.type "type")) (hn : x ≠ "__name__") (hdb : (x == ("__debug__" : Str)) = false) (hg2 : Gl X y) (hm2 : X.mg y = none) (hv2 : bootBuiltins y = some (.type T)) (hn2 : y ≠ "__name__") (hdb2 : (y == ("__debug__" : Str)) = false) (ha : PE X a (tD (dc X c W) fa))
    (hs : starEach [a] X.env = (false, eval a X.env) :: starEach [] X.env := by rfl) (hpl : (backTo p2 (starEach [] X.env)).any (·.1) = false := by rfl) :
    PE X (.Compare (.Call (.Name x p) [a] [] p2) [.Is] [.Name y p1] pos) (tD (dc X c W) (eTyIs T fa)) :=
  PE.imp (pe_cmpR op_isTy (pe_callTy call_typeE hg hm hv (pa_cons ha pa_nil hs) hn hdb hs hpl) (pe_bltn (v := .ty T) hg2 hm2 hv2 rfl hn2 hdb2) (nomark _)) fun _ _ _ => red_tyIs
theorem tTyIs {x y : Str} {T : String} {p1 p2 : Pos} (hg : Gl X x) (hm : X.mg x = none) (hv : bootBuiltins x = some (.type "type")) (hn : x ≠ "__name__") (hdb : (x == ("__debug__" : Str)) = false) (hg2 : Gl X y) (hm2 : X.mg y = none) (hv2 : bootBuiltins y = some (.type T)) (hn2 : y ≠ "__name__") (hdb2 : (y == ("__debug__" : Str)) = false) (ha : PE X a (tD (dc X c W) fa))
    (hs : starEach [a] X.env = (false, eval a X.env) :: starEach [] X.env := by rfl) (hpl : (backTo p2 (starEach [] X.env)).any (·.1) = false := by rfl) :
    PT X (.Compare (.Call (.Name x p) [a] [] p2) [.Is] [.Name y p1] pos) (tT (dc X c W) (isB (eTyIs T fa))) :=
  PT.imp (pt_cmpR op_isTy (pe_callTy call_typeE hg hm hv (pa_cons ha pa_nil hs) hn hdb hs hpl) (pe_bltn (v := .ty T) hg2 hm2 hv2 rfl hn2 hdb2) (nomark _)) fun _ _ _ h => red_tyIs (red_isB h)
theorem tTyNot {x y : Str} {T : String} {p1 p2 : Pos} (hg : Gl X x) (hm : X.mg x = none) (hv : bootBuiltins x = some (.type "type")) (hn : x ≠ "__name__") (hdb : (x == ("__debug__" : Str)) = false) (hg2 : Gl X y) (hm2 : X.mg y = none) (hv2 : bootBuiltins y = some (.type T)) (hn2 : y ≠ "__name__") (hdb2 : (y == ("__debug__" : Str)) = false) (ha : PE X a (tD (dc X c W) fa))
    (hs : starEach [a] X.env = (false, eval a X.env) :: starEach [] X.env := by rfl) (hpl : (backTo p2 (starEach [] X.env)).any (·.1) = false := by rfl) :
    PT X (.Compare (.Call (.Name x p) [a] [] p2) [.IsNot] [.Name y p1] pos) (tT (dc X c W) (isB (eTyNot T fa))) :=
  PT.imp (pt_cmpR op_isNotTy (pe_callTy call_typeE hg hm hv (pa_cons ha pa_nil hs) hn hdb hs hpl) (pe_bltn (v := .ty T) hg2 hm2 hv2 rfl hn2 hdb2) (nomark _)) fun _ _ _ h => red_tyNot (red_isB h)
end
end DL

namespace DL
open L2 PySem PySem.Spec PyProof.Rows
/-! ## repr, and _law_like -/
mutual
/-- every leaf is short -/
def good : PyData → Bool
  | .none => true
  | .bool _ => true
  | .int i => decide (i.natAbs < 10 ^ 12)
  | .str x => PyData.leavesShort 13 (.str x)
  | .list xs => goodAll xs
  | .tuple xs => goodAll xs
  | .dict _ => false
def goodAll : List PyData → Bool
  | [] => true
  | x :: xs => good x && goodAll xs
end
theorem int_show {i : Int} (h : i.natAbs < 10 ^ 12) : i.natAbs.log2 < 1920 := by
  by_cases h0 : i.natAbs = 0
  · rw [h0]; decide
  · refine (Nat.log2_lt h0).mpr (Nat.lt_of_lt_of_le h ?_)
    exact Nat.le_trans (show 10 ^ 12 ≤ 2 ^ 40 by decide) (Nat.pow_le_pow_right (by decide) (by decide))
mutual
theorem good_facts : ∀ d : PyData, good d = true → d.showable = true ∧ d.leavesShort 13 = true ∧ d.hasDict = false
  | .none, _ => by refine ⟨?_, ?_, ?_⟩ <;> first | rfl | decide +kernel
  | .bool b, _ => by cases b <;> (refine ⟨?_, ?_, ?_⟩ <;> first | rfl | decide +kernel)
  | .int i, h => by
    have h' : i.natAbs < 10 ^ 12 := of_decide_eq_true (by simpa [good] using h)
    refine ⟨decide_eq_true (int_show h'), ?_, rfl⟩
    have := PyData.shown_int_le h'
    simpa [PyData.leavesShort] using this
  | .str x, h => by
    exact ⟨rfl, by simpa [good] using h, rfl⟩
  | .list xs, h => by
    obtain ⟨a, b, c⟩ := goodAll_facts xs (by simpa [good] using h)
    exact ⟨by simpa [PyData.showable] using a, by simpa [PyData.leavesShort] using b, by simpa [PyData.hasDict] using c⟩
  | .tuple xs, h => by
    obtain ⟨a, b, c⟩ := goodAll_facts xs (by simpa [good] using h)
    exact ⟨by simpa [PyData.showable] using a, by simpa [PyData.leavesShort] using b, by simpa [PyData.hasDict] using c⟩
  | .dict _, h => by simp [good] at h
theorem goodAll_facts : ∀ xs : List PyData, goodAll xs = true → PyData.showableAll xs = true ∧ PyData.leavesShortAll 13 xs = true ∧ PyData.hasDictAll xs = false
  | [], _ => ⟨rfl, rfl, rfl⟩
  | x :: xs, h => by
    have h' : good x = true ∧ goodAll xs = true := by simpa [goodAll] using h
    obtain ⟨a, b, c⟩ := good_facts x h'.1
    obtain ⟨a2, b2, c2⟩ := goodAll_facts xs h'.2
    exact ⟨by simp [PyData.showableAll, a, a2], by simp [PyData.leavesShortAll, b, b2], by simp [PyData.hasDictAll, c, c2]⟩
end
theorem room200 {k : Nat} {A : Around} (hr : Room k A) : A.units + 200 < cLine := by have := hr.un; omega
/-- what _law_like may be asked of -/
def okR (d : PyData) : Prop := good d = true ∧ d.weight ≤ 2 ^ 20 ∧ d.depth ≤ 150
section
variable {X : Cx}
theorem c_repr (hgd : X.A.guards = some []) (hu : X.A.units + 200 < cLine) : CallR X (.builtin "repr") (fun xs H Q => ∃ v d, xs = [v] ∧ Dp X.K H v d ∧ okR d ∧ Q (.str d.shown) H) := by
  intro pins s σ H xs us Q I r h
  obtain ⟨v, d, rfl, p, ⟨hg, hw, hd⟩, q⟩ := h
  obtain ⟨u, rfl, ru⟩ := vals1 r
  obtain ⟨f1, f2, f3⟩ := good_facts d hg
  have hsz : d.shown.length ≤ sizeLine := PyData.shown_fits (B := 13) (by decide) (by decide) f2 hw
  obtain ⟨as, rd⟩ := Dp.reads I d v u p ru
  cases p with
  | non =>
    cases ru
    exact PySem.P.repr_of_none ⟨.str _, H, I.tok _, ⟨_, rfl⟩, q⟩
  | bl b =>
    cases ru
    refine PySem.P.repr_of_bool ⟨.str _, H, I.tok _, ⟨_, rfl⟩, ?_⟩
    have e : PyData.shown (.bool b) = (if b then "True" else "False" : String) := by cases b <;> rfl
    rw [e] at q
    cases b <;> exact q
  | int i =>
    obtain ⟨t, rfl⟩ := ru
    have h' : i.natAbs < 10 ^ 12 := of_decide_eq_true (by simpa [good] using hg)
    exact PySem.P.repr_of_int (int_show h') ⟨.str _, H, I.tok _, ⟨_, rfl⟩, q⟩
  | str x =>
    obtain ⟨t, rfl⟩ := ru
    exact PySem.P.repr_of_str ⟨.str _, H, I.tok _, ⟨_, rfl⟩, q⟩ hsz
  | lst hx ha =>
    cases ru
    exact repr_of_reads' rd f1 (fun z => by rw [f3] at z; cases z) hgd (by omega) (fun _ _ e => e) (fun h' u tk k => ⟨.str _, H, I.kept k, ⟨u, rfl⟩, q⟩) hsz
  | tup hx ha =>
    cases ru
    exact repr_of_reads' rd f1 (fun z => by rw [f3] at z; cases z) hgd (by omega) (fun _ _ e => e) (fun h' u tk k => ⟨.str _, H, I.kept k, ⟨u, rfl⟩, q⟩) hsz
end
/-- the law's own likeness: only of what is like -/
noncomputable def likeG : FM := fun as w =>
  match as with
  | [.val d, .val e] => open Classical in if d = e ∧ okR d then .ok (.bool true) w else .bad
  | _ => .bad
theorem like_ok {P : Program} {w : World} {K : PySem.W.Frag} {mg : Str → Option Value} {base : Heap} {f : Addr} {fd : FuncData} {st : Stmt} (F : Fun K "_law_like" "_law_like" st f fd) (S : FnScope ["got", "due"] ["got", "due"] (defScope st)) (mr : mg "repr" = none)
    (hbd : ∃ p1 p2 p3 p4 p5 p6 p7 p8 p9 p10 : Pos, defBody st = [.Return (some (.Compare (.Call (.Name "repr" p1) [.Name "got" p2] [] p3) [.Eq] [.Call (.Name "repr" p4) [.Name "due" p5] [] p6] p7)) p8]) (hgl : (defScope st).names.lookup ("repr" : Str) = some .globalImplicit)
    (h1 : (defScope st).names.lookup ("got" : Str) = some .local) (h2 : (defScope st).names.lookup ("due" : Str) = some .local) :
    FnG P w K mg base 1 f fd ["got", "due"] (spD mg K 2 likeG) := by
  obtain ⟨p1, p2, p3, p4, p5, p6, p7, p8, _, _, eb⟩ := hbd
  refine fn_G F S (fun vs H Q E h => spD_len h) fun cdv A outer s H vs Q E hr hgd _ h => ?_
  obtain ⟨c, as, wd, hn, h0, ok, ha, hst, hG⟩ := h
  rw [eb]
  refine ⟨_, pss_one (ps_ret (pe_cmpR op_eq (pe_callB (c_repr hgd (room200 hr)) (by exact hgl) mr (by decide +kernel) (pa_cons (pv 0 rfl (.inl h1)) pa_nil)) (pe_callB (c_repr hgd (room200 hr)) (by exact hgl) mr (by decide +kernel) (pa_cons (pv 1 rfl (.inl h2)) pa_nil)) (nomark _))), ?_⟩
  match as, hn, ha, hG with
  | [a, b], _, ha, hG =>
    cases a with
    | val d =>
      cases b with
      | val e =>
        obtain ⟨x, ex, x', exx, px⟩ := ha.2 0 _ rfl
        obtain ⟨y, ey, y', eyy, py⟩ := ha.2 1 _ rfl
        cases exx
        cases eyy
        have hv : vs = [x, y] := by
          have hl := ha.1
          match vs, hl, ex, ey with
          | [v1, v2], _, ex, ey =>
            cases ex
            cases ey
            rfl
        subst hv
        by_cases hc : d = e ∧ okR d
        · obtain ⟨rfl, hk⟩ := hc
          have hG' : ∀ v H', Keep (SAd c.sa) H H' → StOk c.sa wd H' → Do K H' c.O0 v (.bool true) → Q v H' := by
            have e1 : likeG [.val d, .val d] wd = .ok (.bool true) wd := by
              unfold likeG
              exact if_pos ⟨rfl, hk⟩
            rw [e1] at hG
            exact hG
          refine ⟨x, rfl, x, d, rfl, px.dp (good_facts d hk.1).2.2, hk, y, rfl, y, d, rfl, py.dp (good_facts d hk.1).2.2, hk, rfl, ?_⟩
          rw [decide_eq_true (rfl : V.str d.shown = V.str d.shown)]
          exact hG' _ H .refl hst (.bl true)
        · have e1 : likeG [.val d, .val e] wd = .bad := by
            unfold likeG
            exact if_neg hc
          rw [e1] at hG
          exact hG.elim
      | _ => exact hG.elim
    | _ => exact hG.elim
end DL

namespace DL
open L2 PySem PySem.Spec PyProof.Rows
/-! ## own lists looked at, popped -/
def leaf : PyData → Bool
  | .none | .bool _ | .int _ | .str _ => true
  | _ => false
theorem leaf_do {K : PySem.W.Frag} {H : Hp} {O O' : Addr → Prop} {v : V} {d : PyData} (h : Do K H O v d) (hl : leaf d = true) : Do K H O' v d := by
  cases h with
  | non => exact .non
  | bl b => exact .bl b
  | int i => exact .int i
  | str x => exact .str x
  | lst _ _ _ => cases hl
  | tup _ _ _ => cases hl
  | dcK _ _ _ _ _ => cases hl
  | dcT _ _ _ _ _ => cases hl
/-- what an own list shows: only plain values come of it -/
def eOw1 (g : List PyData → Option PyData) (i : Nat) : EM := fun r w =>
  match r[i]? with
  | some (.own ds) => (match g [.list ds] with
    | some z => if leaf z = true then .ok z w else .bad
    | none => .bad)
  | _ => .bad
def eOw2 (g : PyData → PyData → Option PyData) (i : Nat) (f : EM) : EM := fun r w =>
  match r[i]? with
  | some (.own ds) => (f r w).bind fun e w1 => (match g (.list ds) e with
    | some z => if leaf z = true then .ok z w1 else .bad
    | none => .bad)
  | _ => .bad
/-- x[e] of an own list -/
def eOwIx (i : Nat) (f : EM) : EM := fun r w =>
  match r[i]? with
  | some (.own ds) => (f r w).bind fun e w1 => opt (ixD (.list ds) e) w1
  | _ => .bad
/-- x.pop(e), x.pop() of an own list, into an own list or a target -/
def popAtD (ds : List PyData) (e : PyData) : Option (PyData × List PyData) :=
  match e with
  | .int k => if -(2 ^ 63) ≤ k ∧ k < 2 ^ 63 then (seqIndex? k ds.length).bind fun m => (ds[m]?).map fun y => (y, ds.eraseIdx m) else none
  | _ => none
def popD (ds : List PyData) : Option (PyData × List PyData) := (ds[ds.length - 1]?).map fun y => (y, ds.dropLast)
def sAppPopAt (j i : Nat) (f : EM) : SM := fun r w =>
  match r[j]?, r[i]? with
  | some (.own fs), some (.own ds) => (f r w).bindS fun e w1 => (match popAtD ds e with
    | some (y, ds') => if fs.length < szL then .nx ((r.set i (.own ds')).set j (.own (fs ++ [y]))) w1 else .bad
    | none => .bad)
  | _, _ => .bad
def sAsgPop (p : Pat) (i : Nat) : SM := fun r w =>
  match r[i]? with
  | some (.own ds) => (match popD ds with
    | some (y, ds') => (match setP p y (r.set i (.own ds')) with
      | some r1 => .nx r1 w
      | none => .bad)
    | none => .bad)
  | _ => .bad
section
variable {C : Dc} {σ : L2.St} {H : Hp}
/-- an own list seen as data, outside of itself -/
theorem own_see {P : List (V × PyData)} {ow : Nat → Option Addr} {r : List SV} {w : DS} {i : Nat} {ds : List PyData} (R : C.Rl P ow r w σ H) (e : r[i]? = some (.own ds)) :
    ∃ a, σ[i]? = some (some (.ref a)) ∧ ow i = some a ∧ Do C.K H (fun b => Ow C.c.O0 ow b ∧ b ≠ a) (.ref a) (.list ds) := by
  obtain ⟨v, e2, a, xs, ea, ev, hx, hd⟩ := R.slot i _ e
  subst ev
  exact ⟨a, e2, ea, .lst hx (fun z => z.2 rfl) (hd.weak fun b z => z.1)⟩
theorem red_ow1 {g : List PyData → Option PyData} {i : Nat} {Q : VK} (h : tD C (eOw1 g i) σ H Q) : tCB (rDs C.K g) (tCons (tVar i) tNil) σ H Q := by
  obtain ⟨P, ow, r, w, R, h⟩ := h
  unfold eOw1 at h
  cases e : r[i]? with
  | none => rw [e] at h; exact h.elim
  | some sv =>
    rw [e] at h
    cases sv with
    | own ds =>
      obtain ⟨a, e2, ea, p⟩ := own_see R e
      have h2 : gE C (fD C) (match g [.list ds] with
        | some z => if leaf z = true then .ok z w else .bad
        | none => .bad) P ow r σ H Q := h
      cases hg : g [.list ds] with
      | none => rw [hg] at h2; exact h2.elim
      | some z =>
        rw [hg] at h2
        have h3 : gE C (fD C) (if leaf z = true then .ok z w else .bad) P ow r σ H Q := h2
        by_cases hl : leaf z = true
        · rw [if_pos hl] at h3
          refine ⟨.ref a, e2, _, [.list ds], z, fun b hb => R.dom' b hb.1, .cons p .nil, hg, fun x H' s q => ?_⟩
          have st := step_same R s
          exact h3 x H' st.1 st.2 (leaf_do q hl)
        · rw [if_neg hl] at h3; exact h3.elim
    | un => exact h.elim
    | val _ => exact h.elim
    | st => exact h.elim
    | fn _ => exact h.elim
    | lam => exact h.elim
theorem red_ow2 {g : PyData → PyData → Option PyData} {i : Nat} {f : EM} {Q : VK} (h : tD C (eOw2 g i f) σ H Q) : tOp (rD2 C.K g) (tVar i) (tD C f) σ H Q := by
  obtain ⟨P, ow, r, w, R, h⟩ := h
  unfold eOw2 at h
  cases e : r[i]? with
  | none => rw [e] at h; exact h.elim
  | some sv =>
    rw [e] at h
    cases sv with
    | own ds =>
      obtain ⟨a, e2, _, _⟩ := own_see R e
      refine ⟨.ref a, e2, P, ow, r, w, R, gE.bind h fun d w1 u H1 _ k1 R1 p1 h1 => ?_⟩
      obtain ⟨a', e2', _, p⟩ := own_see R1 e
      rw [e2] at e2'
      cases e2'
      have h2 : gE C (fD C) (match g (.list ds) d with
        | some z => if leaf z = true then .ok z w1 else .bad
        | none => .bad) P ow r σ H1 Q := h1
      cases hg : g (.list ds) d with
      | none => rw [hg] at h2; exact h2.elim
      | some z =>
        rw [hg] at h2
        have h3 : gE C (fD C) (if leaf z = true then .ok z w1 else .bad) P ow r σ H1 Q := h2
        by_cases hl : leaf z = true
        · rw [if_pos hl] at h3
          refine ⟨_, .list ds, d, z, fun b hb => R1.dom' b hb.1, p, p1.weak fun b z => z.1, hg, fun x H' s q => ?_⟩
          have st := step_same R1 s
          exact h3 x H' st.1 st.2 (leaf_do q hl)
        · rw [if_neg hl] at h3; exact h3.elim
    | un => exact h.elim
    | val _ => exact h.elim
    | st => exact h.elim
    | fn _ => exact h.elim
    | lam => exact h.elim
theorem red_owIx {i : Nat} {f : EM} {Q : VK} (h : tD C (eOwIx i f) σ H Q) : tOp (rIxL C.K) (tVar i) (tD C f) σ H Q := by
  obtain ⟨P, ow, r, w, R, h⟩ := h
  unfold eOwIx at h
  cases e : r[i]? with
  | none => rw [e] at h; exact h.elim
  | some sv =>
    rw [e] at h
    cases sv with
    | own ds =>
      obtain ⟨v, e2, a, xs, ea, ev, hx, hd⟩ := R.slot i _ e
      subst ev
      refine ⟨.ref a, e2, P, ow, r, w, R, gE.bind h fun d w1 u H1 _ k1 R1 p1 h1 => ?_⟩
      obtain ⟨v', e3, a', xs', ea', ev', hx', hd'⟩ := R1.slot i _ e
      rw [ea] at ea'
      cases ea'
      have h2 : gE C (fD C) (opt (ixD (.list ds) d) w1) P ow r σ H1 Q := h1
      cases d with
      | int k =>
        cases p1
        have h3 : gE C (fD C) (opt (atI ds k) w1) P ow r σ H1 Q := h2
        cases ha : atI ds k with
        | none => rw [ha] at h3; exact h3.elim
        | some z =>
          rw [ha] at h3
          obtain ⟨x, ex, px⟩ := atI_do hd' ha
          exact ⟨a, xs', k, x, rfl, rfl, SqL.of hx', ex, h3 x H1 .refl R1 px⟩
      | _ => exact h2.elim
    | un => exact h.elim
    | val _ => exact h.elim
    | st => exact h.elim
    | fn _ => exact h.elim
    | lam => exact h.elim
theorem red_appPopAt {D : Ends} {j i : Nat} (hij : i ≠ j) {f : EM} (h : tS C (sAppPopAt j i f) D σ H) : tDrop (tBM C.K "list" rAppend (tVar j) (tCons (tBM C.K "list" rPopAt (tVar i) (tCons (tD C f) tNil)) tNil)) D σ H := by
  obtain ⟨P, ow, r, w, R, h⟩ := h
  unfold sAppPopAt at h
  cases ej : r[j]? with
  | none => rw [ej] at h; exact h.elim
  | some svj =>
    cases ei : r[i]? with
    | none => rw [ej, ei] at h; cases svj <;> exact h.elim
    | some svi =>
      rw [ej, ei] at h
      cases svj with
      | own fs =>
        cases svi with
        | own ds =>
          obtain ⟨vj, e2, b, ys, eb, ev, hy, hfs⟩ := R.slot j _ ej
          subst ev
          obtain ⟨vi, e3, a, xs, ea, ev, hx, hds⟩ := R.slot i _ ei
          subst ev
          refine ⟨.ref b, e2, .inl ⟨rfl, _, SqL.of hy⟩, .ref a, e3, .inl ⟨rfl, _, SqL.of hx⟩, P, ow, r, w, R, gE.bindS h fun d w1 u H1 _ k1 R1 p1 h1 => ?_⟩
          obtain ⟨v', e4, a', xs', ea', ev', hx', hd'⟩ := R1.slot i _ ei
          rw [ea] at ea'
          cases ea'
          have h2 : gS C (match popAtD ds d with
            | some (y, ds') => if fs.length < szL then .nx ((r.set i (.own ds')).set j (.own (fs ++ [y]))) w1 else .bad
            | none => .bad) P D := h1
          cases hp : popAtD ds d with
          | none => rw [hp] at h2; exact h2.elim
          | some z =>
            obtain ⟨y, ds'⟩ := z
            rw [hp] at h2
            have h3 : gS C (if fs.length < szL then .nx ((r.set i (.own ds')).set j (.own (fs ++ [y]))) w1 else .bad) P D := h2
            by_cases hl : fs.length < szL
            · rw [if_pos hl] at h3
              cases d with
              | int k =>
                cases p1
                simp only [popAtD] at hp
                by_cases hk : -(2 ^ 63) ≤ k ∧ k < 2 ^ 63
                · rw [if_pos hk] at hp
                  cases hs : seqIndex? k ds.length with
                  | none => rw [hs] at hp; cases hp
                  | some m =>
                    rw [hs] at hp
                    have hp2 : (ds[m]?).map (fun y => (y, ds.eraseIdx m)) = some (y, ds') := hp
                    cases hm : ds[m]? with
                    | none => rw [hm] at hp2; cases hp2
                    | some y0 =>
                      rw [hm] at hp2
                      cases hp2
                      obtain ⟨x, ex, px⟩ := hd'.get hm
                      have hlen := hd'.length
                      refine ⟨a, xs', k, m, x, rfl, rfl, hx', hk.1, hk.2, by rw [hlen]; exact hs, ex, ?_⟩
                      have R2 := R1.turn ei ea (hd'.eraseIdx m)
                      have ej2 : (r.set i (.own (ds.eraseIdx m)))[j]? = some (.own fs) := by rw [List.getElem?_set_ne hij]; exact ej
                      obtain ⟨v5, e5, b', ys', eb', ev5, hy', hfs'⟩ := R2.slot j _ ej2
                      rw [eb] at eb'
                      cases eb'
                      have px2 : Do C.K (upd H1 a (.lst (xs'.eraseIdx m))) (Ow C.c.O0 ow) x y := by
                        have kp : Keep (fun b => b = a) H1 (upd H1 a (.lst (xs'.eraseIdx m))) := ⟨fun b o q n => by rw [upd_ne n]; exact q, fun b zs q => by
                          rw [upd_ne (fun z => by rw [z, hx'] at q; cases q)]; exact q, fun b o u q => by
                          rw [upd_ne (fun z => by rw [z, hx'] at q; cases q)]; exact q, fun b u q => by
                          rw [upd_ne (fun z => by rw [z, hx'] at q; cases q)]; exact q⟩
                        exact px.keep kp fun b hb => .inr ⟨i, by rw [hb]; exact ea⟩
                      refine ⟨b, ys', x, rfl, rfl, hy', by rw [hfs'.length]; exact Nat.lt_of_lt_of_le hl szL_le, ?_⟩
                      exact h3 _ _ _ (R2.turn ej2 eb (hfs'.append (.cons px2 .nil)))
                · rw [if_neg hk] at hp; cases hp
              | _ => simp only [popAtD] at hp; cases hp
            · rw [if_neg hl] at h3; exact h3.elim
        | _ => exact h.elim
      | _ => cases svi <;> exact h.elim
end
section
variable {X : Cx} {c : Cn} {W : XW} {a b e : Expr} {f : EM} {pos p : Pos}
theorem dOw1 (i : Nat) {x y : Str} {p2 : Pos} {id : String} {g : List PyData → Option PyData} (hc : CallR X (.builtin id) (rDs X.K g)) (hg : Gl X x) (hm : X.mg x = none) (hv : bootBuiltins x = some (.builtin id)) (ha : PE X (.Name y p2) (tVar i)) (hn : x ≠ "__name__" := by decide) (hdb : (x == ("__debug__" : Str)) = false := by decide)
    (he : starEach [.Name y p2] X.env = (false, eval (.Name y p2) X.env) :: starEach [] X.env := by rfl) (hpl : (backTo pos (starEach [] X.env)).any (·.1) = false := by rfl) : PE X (.Call (.Name x p) [.Name y p2] [] pos) (tD (dc X c W) (eOw1 g i)) := PE.imp (pe_callB hc hg hm hv (pa_cons ha pa_nil he) hn hdb he hpl) fun _ _ _ => red_ow1
theorem tOw2 (i : Nat) {y : Str} {p2 : Pos} {op : CmpOp} {g : PyData → PyData → Option PyData} (ho : OpR X (compareOp op) (rD2 X.K g)) (ha : PE X (.Name y p2) (tVar i)) (hb : PE X b (tD (dc X c W) f)) (hm : behindInMarks op b = false) : PT X (.Compare (.Name y p2) [op] [b] pos) (tT (dc X c W) (isB (eOw2 g i f))) := PT.imp (pt_cmpR ho ha hb hm) fun _ _ _ h => red_ow2 (red_isB h)
theorem dOwIx (i : Nat) {y : Str} {p2 : Pos} (ha : PE X (.Name y p2) (tVar i)) (hb : PE X b (tD (dc X c W) f)) (hs : PlainIx b := by exact fun _ _ => rfl) : PE X (.Subscript (.Name y p2) b pos) (tD (dc X c W) (eOwIx i f)) := PE.imp (pe_ix ix_list ha hb hs) fun _ _ _ => red_owIx
theorem stAppPopAt (j i : Nat) (hij : i ≠ j) {x y : Str} {p1 p2 apos cpos apos2 cpos2 : Pos} (hv : PE X (.Name x p1) (tVar j)) (hv2 : PE X (.Name y p2) (tVar i)) (he : PE X e (tD (dc X c W) f))
    (hs : swapsWith (.Call (.Attribute (.Name x p1) "append" apos) [.Call (.Attribute (.Name y p2) "pop" apos2) [e] [] cpos2] [] cpos) none pos.line X.env = pure false := by rfl)
    (b1 : attributeBase (.Name x p1) "append" X.env (eval (.Name x p1) X.env) = eval (.Name x p1) X.env := by rfl) (b2 : attributeBase (.Name y p2) "pop" X.env (eval (.Name y p2) X.env) = eval (.Name y p2) X.env := by rfl)
    (f1 : ((backTo cpos (starEach [.Call (.Attribute (.Name y p2) "pop" apos2) [e] [] cpos2] X.env)).all (fun x => !x.1) && (backToKw cpos (keywordEach [] X.env)).all (fun x => x.1.isSome) && decide (([.Call (.Attribute (.Name y p2) "pop" apos2) [e] [] cpos2] : List Expr).length + ([] : List Keyword).length + (if ([] : List Keyword).isEmpty then 0 else 1) < 30)) = true := by rfl)
    (f2 : ((backTo cpos2 (starEach [e] X.env)).all (fun x => !x.1) && (backToKw cpos2 (keywordEach [] X.env)).all (fun x => x.1.isSome) && decide (([e] : List Expr).length + ([] : List Keyword).length + (if ([] : List Keyword).isEmpty then 0 else 1) < 30)) = true := by rfl)
    (l1 : (apos.endLine == cpos.line) = true := by rfl) (l2 : (apos2.endLine == cpos2.line) = true := by rfl)
    (s1 : starEach [.Call (.Attribute (.Name y p2) "pop" apos2) [e] [] cpos2] X.env = (false, eval (.Call (.Attribute (.Name y p2) "pop" apos2) [e] [] cpos2) X.env) :: starEach [] X.env := by rfl) (s2 : starEach [e] X.env = (false, eval e X.env) :: starEach [] X.env := by rfl)
    (n1 : (backTo cpos (starEach [] X.env)).any (·.1) = false := by rfl) (n2 : (backTo cpos2 (starEach [] X.env)).any (·.1) = false := by rfl) :
    PS X (.Expr (.Call (.Attribute (.Name x p1) "append" apos) [.Call (.Attribute (.Name y p2) "pop" apos2) [e] [] cpos2] [] cpos) pos) (tS (dc X c W) (sAppPopAt j i f)) :=
  PS.imp (ps_expr (pe_bm PySem.F.plainAttrs_list PySem.F.slot_list_append PySem.F.type_list_append mt_append hv (pa_cons (pe_bm PySem.F.plainAttrs_list PySem.F.slot_list_pop PySem.F.type_list_pop mt_popAt hv2 (pa_cons he pa_nil s2) b2 f2 l2 s2 n2) pa_nil s1) b1 f1 l1 s1 n1) hs) fun _ _ _ => red_appPopAt hij
end
/-! ## fresh lists -/
def lRg1 (f : EM) : IM := itRg1 f
theorem red_lstRg {C : Dc} {f : EM} {σ : L2.St} {H : Hp} {Q : VK} (h : tLst (tL C (itRg1 f)) σ H Q) : tLstRg (tRg1 (tD C f)) σ H Q := by
  obtain ⟨P, ow, r, w, R, h⟩ := h
  refine ⟨P, ow, r, w, R, gE.bind (φ := fD C) (ψ := fL (C := C)) (f := fun d w1 => match d with
    | .int n => if -16777216 ≤ n ∧ n ≤ 16777216 then .ok (rgD 0 n.toNat) w1 else .bad
    | _ => .bad) h fun d w1 v H1 _ k1 R1 p1 h1 => ?_⟩
  cases d with
  | int n =>
    cases p1
    have h2 : gE C (fL (C := C)) (if -16777216 ≤ n ∧ n ≤ 16777216 then .ok (rgD 0 n.toNat) w1 else .bad) P ow r σ H1 (fun xs H1 => xs.length ≤ sizeLine ∧ ∀ p, H1 p = none → Q (.ref p) (upd H1 p (.lst xs))) := h1
    by_cases hn : -16777216 ≤ n ∧ n ≤ 16777216
    · rw [if_pos hn] at h2
      refine ⟨n, rfl, ⟨by omega, by omega, by omega, by omega, by omega⟩, fun q hq => ?_⟩
      have e : rgV 0 n = (List.range n.toNat).map fun (i : Nat) => V.int (0 + i) := by
        unfold rgV
        rw [Int.sub_zero]
      rw [e]
      exact (h2 _ H1 .refl R1 (by unfold rgD; exact DoAll.of_map _ fun a _ => .int _)).2 q hq
    · rw [if_neg hn] at h2; exact h2.elim
  | _ => exact h1.elim
theorem frRg {X : Cx} {c : Cn} {W : XW} {a : Expr} {f : EM} {p p2 pos pos2 : Pos} (hc : X.calm = true) (hg : Gl X "list") (hm : X.mg "list" = none) (hg2 : Gl X "range") (hm2 : X.mg "range" = none) (ha : PE X a (tD (dc X c W) f)) (na : starEach [a] X.env = (false, eval a X.env) :: starEach [] X.env := by rfl)
    (na2 : starEach [.Call (.Name "range" p2) [a] [] pos2] X.env = (false, eval (.Call (.Name "range" p2) [a] [] pos2) X.env) :: starEach [] X.env := by rfl) : PE X (.Call (.Name "list" p) [.Call (.Name "range" p2) [a] [] pos2] [] pos) (tLst (tL (dc X c W) (itRg1 f))) :=
  PE.imp (pe_listRg hc hg hm (prg_1 hg2 hm2 ha na) na2) fun _ _ _ => red_lstRg
theorem frLst {X : Cx} {c : Cn} {W : XW} {es : List Expr} {fl : IM} {pos : Pos} (h : PA X es (tL (dc X c W) fl)) : PE X (.List es pos) (tLst (tL (dc X c W) fl)) := pe_lst h
/-- two own lists at once -/
def sOwn2 (i j : Nat) (f g : IM) : SM := fun r w => (f r w).bindS fun ds w1 => (g r w1).bindS fun es w2 => if ds.length ≤ szL ∧ es.length ≤ szL then .nx ((r.set i (.own ds)).set j (.own es)) w2 else .bad
theorem red_own2 {C : Dc} {D : Ends} {i j : Nat} {f g : IM} {σ : L2.St} {H : Hp} (hg : ∀ r w, g r w = .ok [] w) (h : tS C (sOwn2 i j f g) D σ H) : tPar i j (tCons (tLst (tL C f)) (tCons (tLst (tL C g)) tNil)) D σ H := by
  obtain ⟨P, ow, r, w, R, h⟩ := h
  refine ⟨P, ow, r, w, R, gE.bindS h fun ds w1 vs H1 _ k1 R1 p1 h1 => ?_⟩
  rw [hg, RE.bindS_ok] at h1
  by_cases hl : ds.length ≤ szL ∧ ([] : List PyData).length ≤ szL
  · rw [if_pos hl] at h1
    refine ⟨by rw [DoAll.length p1]; exact Nat.le_trans hl.1 szL_le, fun p hp => ?_⟩
    have R2 := R1.setOwn i hp p1
    have hn : SlotOk C.mg C.K (upd H1 p (.lst vs)) (Ow C.c.O0 ow) C.c.sa none .un none := trivial
    refine ⟨P, ow, r, w1, R1.new hp, ?_⟩
    rw [hg]
    intro ys H3 k3 R3 p3
    cases p3
    refine ⟨Nat.zero_le _, fun q hq => ⟨.ref p, .ref q, rfl, ?_⟩⟩
    have st3 : StOk C.c.sa w1 H3 := R3.st
    have R2' : C.Rl P (owOn ow i p) (r.set i (.own ds)) w1 (σ.set i (some (.ref p))) H3 := R2.after k3 st3
    exact h1 _ _ _ (R2'.setOwn j hq .nil)
  · rw [if_neg hl] at h1; exact h1.elim
theorem stOwn2 {X : Cx} {c : Cn} {W : XW} {i j : Nat} {x y : Str} {a b : Expr} {f g : IM} {px py pt pos : Pos} {kt k2 pt2} (hc : X.calm = true) (hN : X.N.Nodup) (hi : X.N[i]? = some x) (hj : X.N[j]? = some y) (hij : i ≠ j)
    (hx : X.env.scope.names.lookup x = some .local) (hy : X.env.scope.names.lookup y = some .local) (ha : PE X a (tLst (tL (dc X c W) f))) (hb : PE X b (tLst (tL (dc X c W) g))) (hg : ∀ r w, g r w = .ok [] w)
    (hw : swappedStores [.Tuple [.Name x px, .Name y py] kt pt] (.Tuple [a, b] k2 pt2) X.env = pure (some [x, y]))
    (hs : swapsWithSole [.Tuple [.Name x px, .Name y py] kt pt] (.Tuple [a, b] k2 pt2) pos.line X.env = pure false := by rfl)
    (h1 : starEach [a, b] X.env = (false, eval a X.env) :: starEach [b] X.env := by rfl) (h2 : starEach [b] X.env = (false, eval b X.env) :: starEach [] X.env := by rfl) :
    PS X (.Assign [.Tuple [.Name x px, .Name y py] kt pt] (.Tuple [a, b] k2 pt2) pos) (tS (dc X c W) (sOwn2 i j f g)) :=
  PS.imp (ps_par hc hN hi hj hij hx hy (pa_cons ha (pa_cons hb pa_nil h2) h1) hw hs) fun _ _ _ => red_own2 hg
end DL

namespace DL
open L2 PySem PySem.Spec PyProof.Rows
/-! ## the draws' state, read and written -/
def eAt (i : Nat) : EM := fun r w =>
  match r[i]? with
  | some .st => .ok (.int (w.num : Nat)) w
  | _ => .bad
def eCl (i : Nat) (f : EM) : EM := fun r w =>
  match r[i]? with
  | some .st => (f r w).bind fun e w1 => opt (ixD (.list (w1.cells.map PyData.int)) e) w1
  | _ => .bad
def eLf (i : Nat) (f : EM) : EM := fun r w =>
  match r[i]? with
  | some .st => (f r w).bind fun e w1 => opt (ixD (.list (w1.lefts.map PyData.int)) e) w1
  | _ => .bad
def eLn (i : Nat) : EM := fun r w =>
  match r[i]? with
  | some .st => .ok (.int (w.cells.length : Nat)) w
  | _ => .bad
def sPutAt (i : Nat) (f : EM) : SM := fun r w => (f r w).bindS fun d w1 =>
  match r[i]?, d with
  | some .st, .int n => if 0 ≤ n then .nx r { w1 with num := n.toNat } else .bad
  | _, _ => .bad
def setLf (w : DS) (r : List SV) : PyData → PyData → RS
  | .int v, .int k =>
    match ixN w.lefts.length k with
    | some j => .nx r { w with lefts := w.lefts.set j v }
    | none => .bad
  | _, _ => .bad
def sPutLf (i : Nat) (g f : EM) : SM := fun r w =>
  match r[i]? with
  | some .st => (f r w).bindS fun d w1 => (g r w1).bindS fun e w2 => setLf w2 r d e
  | _ => .bad
abbrev stKv (s : SA) (n : Nat) : List (Key × V) := [(.inr "cells", .ref s.c), (.inr "lefts", .ref s.l), (.inr "at", .int (n : Int))]
theorem kv_cells (s : SA) (n : Nat) : valV (stKv s n) (.inr "cells") = some (.ref s.c) := valV_pos rfl
theorem kv_lefts (s : SA) (n : Nat) : valV (stKv s n) (.inr "lefts") = some (.ref s.l) := (valV_neg (fun z => absurd z (by decide : ¬ ((Sum.inr "cells" : Key) = (Sum.inr "lefts" : Key))))).trans (valV_pos rfl)
theorem kv_at (s : SA) (n : Nat) : valV (stKv s n) (.inr "at") = some (.int (n : Int)) := (valV_neg (fun z => absurd z (by decide : ¬ ((Sum.inr "cells" : Key) = (Sum.inr "at" : Key))))).trans ((valV_neg (fun z => absurd z (by decide : ¬ ((Sum.inr "lefts" : Key) = (Sum.inr "at" : Key))))).trans (valV_pos rfl))
theorem kv_put (s : SA) (n m : Nat) : putK (stKv s n) (.inr "at") (.int (m : Int)) = stKv s m := rfl
section
variable {C : Dc} {σ : L2.St} {H : Hp} {D : Ends}
theorem st_see {P : List (V × PyData)} {ow : Nat → Option Addr} {r : List SV} {w : DS} {i : Nat} (R : C.Rl P ow r w σ H) (e : r[i]? = some .st) :
    ∃ s, C.c.sa = some s ∧ σ[i]? = some (some (.ref s.a)) ∧ H s.a = some (.dK (stKv s w.num)) ∧ H s.c = some (.lst (w.cells.map V.int)) ∧ H s.l = some (.lst (w.lefts.map V.int)) ∧ s.l ≠ s.c ∧ w.lefts.length = w.cells.length ∧ 0 < w.cells.length := by
  obtain ⟨v, e2, s, es, ev⟩ := R.slot i _ e
  subst ev
  exact ⟨s, es, e2, (R.st s es).2⟩
theorem red_at {i : Nat} {Q : VK} (h : tD C (eAt i) σ H Q) : tDGet (tVar i) (tC (.str "at")) σ H Q := by
  obtain ⟨P, ow, r, w, R, h⟩ := h
  unfold eAt at h
  cases e : r[i]? with
  | none => rw [e] at h; exact h.elim
  | some sv =>
    rw [e] at h
    cases sv with
    | st =>
      obtain ⟨s, _, e2, hd, _⟩ := st_see R e
      refine ⟨.ref s.a, e2, s.a, _, rfl, ?_, h.ret .refl R (.int _)⟩
      have g := DGet.k (k := Sum.inr "at") hd
      rw [kv_at] at g
      exact g
    | un => exact h.elim
    | val _ => exact h.elim
    | own _ => exact h.elim
    | fn _ => exact h.elim
    | lam => exact h.elim
theorem red_ln {i : Nat} {Q : VK} (h : tD C (eLn i) σ H Q) : tCB (fun xs H Q => ∃ p ys, xs = [V.ref p] ∧ (SqL C.K H p ys ∨ SqT C.K H p ys) ∧ Q (V.int (ys.length : Nat)) H) (tCons (tDGet (tVar i) (tC (.str "cells"))) tNil) σ H Q := by
  obtain ⟨P, ow, r, w, R, h⟩ := h
  unfold eLn at h
  cases e : r[i]? with
  | none => rw [e] at h; exact h.elim
  | some sv =>
    rw [e] at h
    cases sv with
    | st =>
      obtain ⟨s, _, e2, hd, hc, _⟩ := st_see R e
      refine ⟨.ref s.a, e2, s.a, .ref s.c, rfl, ?_, s.c, _, rfl, .inl (SqL.of hc), ?_⟩
      · have g := DGet.k (k := Sum.inr "cells") hd
        rw [kv_cells] at g
        exact g
      · rw [List.length_map]
        exact h.ret .refl R (.int _)
    | un => exact h.elim
    | val _ => exact h.elim
    | own _ => exact h.elim
    | fn _ => exact h.elim
    | lam => exact h.elim
theorem ix_ints {xs : List Int} {e z : PyData} (h : ixD (.list (xs.map PyData.int)) e = some z) : ∃ k n, e = .int k ∧ z = .int n ∧ atI (xs.map V.int) k = some (.int n) := by
  cases e with
  | int k =>
    have h2 : atI (xs.map PyData.int) k = some z := h
    unfold atI at h2 ⊢
    rw [List.length_map] at h2 ⊢
    cases hj : ixN xs.length k with
    | none => rw [hj] at h2; cases h2
    | some j =>
      rw [hj] at h2
      simp only [Option.bind_some, List.getElem?_map] at h2 ⊢
      rw [Option.map_eq_some_iff] at h2
      obtain ⟨n, hn, e⟩ := h2
      exact ⟨k, n, rfl, e.symm, by rw [hj]; show Option.map V.int xs[j]? = _; rw [hn]; rfl⟩
  | _ => cases h
theorem red_cl {i : Nat} {f : EM} {Q : VK} (h : tD C (eCl i f) σ H Q) : tOp (rIxL C.K) (tDGet (tVar i) (tC (.str "cells"))) (tD C f) σ H Q := by
  obtain ⟨P, ow, r, w, R, h⟩ := h
  unfold eCl at h
  cases e : r[i]? with
  | none => rw [e] at h; exact h.elim
  | some sv =>
    rw [e] at h
    cases sv with
    | st =>
      obtain ⟨s, es, e2, hd, hc, _⟩ := st_see R e
      have g := DGet.k (k := Sum.inr "cells") hd
      rw [kv_cells] at g
      refine ⟨.ref s.a, e2, s.a, .ref s.c, rfl, g, P, ow, r, w, R, gE.bind h fun d w1 u H1 _ k1 R1 p1 h1 => ?_⟩
      cases hz : ixD (.list (w1.cells.map PyData.int)) d with
      | none => rw [hz] at h1; exact h1.elim
      | some z =>
        rw [hz] at h1
        obtain ⟨k, n, rfl, rfl, ha⟩ := ix_ints hz
        cases p1
        obtain ⟨s', es', e2', hd', hc', _⟩ := st_see R1 e
        rw [es] at es'
        cases es'
        exact ⟨s.c, _, k, _, rfl, rfl, SqL.of hc', ha, h1.ret .refl R1 (.int _)⟩
    | un => exact h.elim
    | val _ => exact h.elim
    | own _ => exact h.elim
    | fn _ => exact h.elim
    | lam => exact h.elim
theorem red_lf {i : Nat} {f : EM} {Q : VK} (h : tD C (eLf i f) σ H Q) : tOp (rIxL C.K) (tDGet (tVar i) (tC (.str "lefts"))) (tD C f) σ H Q := by
  obtain ⟨P, ow, r, w, R, h⟩ := h
  unfold eLf at h
  cases e : r[i]? with
  | none => rw [e] at h; exact h.elim
  | some sv =>
    rw [e] at h
    cases sv with
    | st =>
      obtain ⟨s, es, e2, hd, hc, _⟩ := st_see R e
      have g := DGet.k (k := Sum.inr "lefts") hd
      rw [kv_lefts] at g
      refine ⟨.ref s.a, e2, s.a, .ref s.l, rfl, g, P, ow, r, w, R, gE.bind h fun d w1 u H1 _ k1 R1 p1 h1 => ?_⟩
      cases hz : ixD (.list (w1.lefts.map PyData.int)) d with
      | none => rw [hz] at h1; exact h1.elim
      | some z =>
        rw [hz] at h1
        obtain ⟨k, n, rfl, rfl, ha⟩ := ix_ints hz
        cases p1
        obtain ⟨s', es', e2', hd', hc', hl', _⟩ := st_see R1 e
        rw [es] at es'
        cases es'
        exact ⟨s.l, _, k, _, rfl, rfl, SqL.of hl', ha, h1.ret .refl R1 (.int _)⟩
    | un => exact h.elim
    | val _ => exact h.elim
    | own _ => exact h.elim
    | fn _ => exact h.elim
    | lam => exact h.elim
theorem gS_pin {x : RS} {P P' : List (V × PyData)} (h : gS C x P D) (hp : ∀ p ∈ P, p ∈ P') : gS C x P' D := by
  cases x with
  | nx r w => exact fun ow σ H R => h ow σ H (R.unpin hp)
  | bk r w => exact fun ow σ H R => h ow σ H (R.unpin hp)
  | ct r w => exact fun ow σ H R => h ow σ H (R.unpin hp)
  | rt d w => exact h
  | ex n x w => exact fun ow r σ H R => h ow r σ H (R.unpin hp)
  | bad => exact h
theorem keep_upd {M : Addr → Prop} {H : Hp} {a : Addr} {o : HO} (hm : M a) (ht : ∀ xs, H a ≠ some (.tup xs)) (hf : ∀ o u, H a ≠ some (.frz o u)) (he : ∀ u, H a ≠ some (.ext u)) : Keep M H (upd H a o) where
  same := fun b x e n => by rw [upd_ne (fun z => n (by rw [z]; exact hm))]; exact e
  tup := fun b xs e => by
    rw [upd_ne (fun z => by subst z; exact ht _ e)]
    exact e
  frz := fun b o u e => by
    rw [upd_ne (fun z => by subst z; exact hf _ _ e)]
    exact e
  ext := fun b u e => by
    rw [upd_ne (fun z => by subst z; exact he _ e)]
    exact e
theorem tabs_upd {T : Addr → Str → Prop} {H : Hp} {a : Addr} {o : HO} (h : TabsP T H) (h1 : ∀ ps, H a ≠ some (.tbl ps)) (h2 : ∀ u, H a ≠ some (.ext u)) : TabsP T (upd H a o) := fun p q hp => by
  obtain ⟨ps, a1, a2, a3⟩ := h p q hp
  refine ⟨ps, by rw [upd_ne (fun z => by rw [z] at a1; exact h1 _ a1)]; exact a1, a2, fun pos cv hc => ?_⟩
  obtain ⟨c, e1, e2⟩ := a3 pos cv hc
  exact ⟨c, e1, by rw [upd_ne (fun z => by rw [z] at e2; exact h2 _ e2)]; exact e2⟩
theorem red_putAt {i : Nat} {f : EM} (h : tS C (sPutAt i f) D σ H) : sDPut (tVar i) (tC (.str "at")) (tD C f) D σ H := by
  obtain ⟨P, ow, r, w, R, h⟩ := h
  refine ⟨P, ow, r, w, R, gE.bindS h fun d w1 u H1 _ k1 R1 p1 h1 => ?_⟩
  cases e : r[i]? with
  | none => rw [e] at h1; exact h1.elim
  | some sv =>
    rw [e] at h1
    cases sv with
    | st =>
      cases d with
      | int n =>
        have h2 : gS C (if 0 ≤ n then .nx r { w1 with num := n.toNat } else .bad) P D := h1
        by_cases hn : 0 ≤ n
        · rw [if_pos hn] at h2
          cases p1
          obtain ⟨s, es, e2, hd, hc, hl, hne, hlen, hpos⟩ := st_see R1 e
          refine ⟨.ref s.a, e2, s.a, _, rfl, DPut.k (k := Sum.inr "at") hd (Nat.lt_of_lt_of_le (by show 3 < szL; decide) szL_le), ?_⟩
          have hk : Keep (SAd C.c.sa) H1 (upd H1 s.a (.dK (putK (stKv s w1.num) (.inr "at") (.int n)))) :=
            keep_upd ⟨s, es, .inl rfl⟩ (fun xs z => by rw [hd] at z; cases z) (fun o u z => by rw [hd] at z; cases z) (fun u z => by rw [hd] at z; cases z)
          refine h2 ow σ _ (R1.after hk fun s' es' => ?_)
          rw [es] at es'
          cases es'
          have ac : s.c ≠ s.a := fun z => by rw [z, hd] at hc; cases hc
          have al : s.l ≠ s.a := fun z => by rw [z, hd] at hl; cases hl
          refine ⟨tabs_upd (R1.st s es).1 (fun q z => by rw [hd] at z; cases z) (fun u z => by rw [hd] at z; cases z), ?_, by rw [upd_ne ac]; exact hc, by rw [upd_ne al]; exact hl, hne, hlen, hpos⟩
          rw [upd_same]
          show some (HO.dK (stKv s w1.num |> fun l => putK l (.inr "at") (.int n))) = _
          have en : n = ((n.toNat : Nat) : Int) := (Int.toNat_of_nonneg hn).symm
          show some (HO.dK (putK (stKv s w1.num) (.inr "at") (.int n))) = some (HO.dK (stKv s n.toNat))
          rw [show putK (stKv s w1.num) (.inr "at") (.int n) = putK (stKv s w1.num) (.inr "at") (.int ((n.toNat : Nat) : Int)) by rw [← en], kv_put]
        · rw [if_neg hn] at h2; exact h2.elim
      | _ => exact h1.elim
    | un => exact h1.elim
    | val _ => exact h1.elim
    | own _ => exact h1.elim
    | fn _ => exact h1.elim
    | lam => exact h1.elim
theorem red_putLf {i : Nat} {g f : EM} (h : tS C (sPutLf i g f) D σ H) : tAsg (tD C f) (gSub (tDGet (tVar i) (tC (.str "lefts"))) (tD C g) rSetL) D σ H := by
  obtain ⟨P, ow, r, w, R, h⟩ := h
  unfold sPutLf at h
  cases e : r[i]? with
  | none => rw [e] at h; exact h.elim
  | some sv =>
    rw [e] at h
    cases sv with
    | st =>
      refine ⟨P, ow, r, w, R, gE.bindS h fun d w1 u H1 _ k1 R1 p1 h1 => ?_⟩
      obtain ⟨s, es, e2, hd, _⟩ := st_see R1 e
      have g := DGet.k (k := Sum.inr "lefts") hd
      rw [kv_lefts] at g
      -- what is written is kept while the place is worked out
      have R1' : C.Rl ([(u, d)] ++ P) ow r w1 σ H1 := R1.pinned fun p hp => by
        rw [List.mem_singleton] at hp
        subst hp
        exact p1
      refine ⟨.ref s.a, e2, s.a, .ref s.l, rfl, g, _, ow, r, w1, R1', ?_⟩
      have h1' : gS C ((_ : RE PyData).bindS fun e w2 => setLf w2 r d e) P D := h1
      have h1p : gS C ((_ : RE PyData).bindS fun e w2 => setLf w2 r d e) ([(u, d)] ++ P) D := gS_pin h1' fun p hp => List.mem_append_right _ hp
      refine gE.bindS h1p fun q w2 y H2 _ k2 R2 p2 h2 => ?_
      cases d with
      | int v =>
        cases q with
        | int k =>
          have h3 : gS C (match ixN w2.lefts.length k with
            | some j => .nx r { w2 with lefts := w2.lefts.set j v }
            | none => .bad) ([(u, .int v)] ++ P) D := h2
          cases hj : ixN w2.lefts.length k with
          | none => rw [hj] at h3; exact h3.elim
          | some j =>
            rw [hj] at h3
            cases p1
            cases p2
            obtain ⟨s', es', e2', hd', hc', hl', hne, hlen, hpos⟩ := st_see R2 e
            rw [es] at es'
            cases es'
            refine ⟨s.l, _, k, j, rfl, rfl, hl', by rw [List.length_map]; exact hj, ?_⟩
            have hk : Keep (SAd C.c.sa) H2 (upd H2 s.l (.lst ((w2.lefts.map V.int).set j (.int v)))) :=
              keep_upd ⟨s, es, .inr (.inl rfl)⟩ (fun xs z => by rw [hl'] at z; cases z) (fun o u z => by rw [hl'] at z; cases z) (fun u z => by rw [hl'] at z; cases z)
            refine h3 ow σ _ (R2.after hk fun s' es' => ?_)
            rw [es] at es'
            cases es'
            have la : s.a ≠ s.l := fun z => by rw [z, hl'] at hd'; cases hd'
            refine ⟨tabs_upd (R2.st s es).1 (fun q z => by rw [hl'] at z; cases z) (fun u z => by rw [hl'] at z; cases z), by rw [upd_ne la]; exact hd', by rw [upd_ne (fun z => hne z.symm)]; exact hc', ?_, hne, ?_, hpos⟩
            · rw [upd_same]
              show some (HO.lst ((w2.lefts.map V.int).set j (.int v))) = some (HO.lst ((w2.lefts.set j v).map V.int))
              rw [List.map_set]
            · show (w2.lefts.set j v).length = _
              rw [List.length_set]; exact hlen
        | _ => exact h2.elim
      | _ => exact h2.elim
    | un => exact h.elim
    | val _ => exact h.elim
    | own _ => exact h.elim
    | fn _ => exact h.elim
    | lam => exact h.elim
end
section
variable {X : Cx} {c : Cn} {W : XW} {a b e : Expr} {f g : EM} {pos p p1 p2 p3 : Pos} {x : Str} {j}
theorem dAt (i : Nat) (hu : X.A.units + 1 < cLine) (hv : PE X (.Name x p1) (tVar i)) : PE X (.Subscript (.Name x p1) (.Constant (.str "at") j p2) pos) (tD (dc X c W) (eAt i)) := PE.imp (pe_dget hu hv pe_str (fun _ _ => rfl)) fun _ _ _ => red_at
theorem dLn (i : Nat) {xl : Str} {j} (hu : X.A.units + 1 < cLine) (hg : Gl X xl) (hm : X.mg xl = none) (hb : bootBuiltins xl = some (.builtin "len")) (hv : PE X (.Name x p1) (tVar i)) (hn : xl ≠ "__name__") (hdb : (xl == ("__debug__" : Str)) = false)
    (he : starEach [.Subscript (.Name x p1) (.Constant (.str "cells") j p2) p3] X.env = (false, eval (.Subscript (.Name x p1) (.Constant (.str "cells") j p2) p3) X.env) :: starEach [] X.env := by rfl) (hpl : (backTo pos (starEach [] X.env)).any (·.1) = false := by rfl) :
    PE X (.Call (.Name xl p) [.Subscript (.Name x p1) (.Constant (.str "cells") j p2) p3] [] pos) (tD (dc X c W) (eLn i)) := PE.imp (pe_callB call_len_seq hg hm hb (pa_cons (pe_dget hu hv pe_str (fun _ _ => rfl)) pa_nil he) hn hdb he hpl) fun _ _ _ => red_ln
theorem dCl (i : Nat) {j} (hu : X.A.units + 1 < cLine) (hv : PE X (.Name x p1) (tVar i)) (he : PE X e (tD (dc X c W) f)) (hs : PlainIx e := by exact fun _ _ => rfl) : PE X (.Subscript (.Subscript (.Name x p1) (.Constant (.str "cells") j p2) p3) e pos) (tD (dc X c W) (eCl i f)) :=
  PE.imp (pe_ix ix_list (pe_dget hu hv pe_str (fun _ _ => rfl)) he hs) fun _ _ _ => red_cl
theorem dLf (i : Nat) {j} (hu : X.A.units + 1 < cLine) (hv : PE X (.Name x p1) (tVar i)) (he : PE X e (tD (dc X c W) f)) (hs : PlainIx e := by exact fun _ _ => rfl) : PE X (.Subscript (.Subscript (.Name x p1) (.Constant (.str "lefts") j p2) p3) e pos) (tD (dc X c W) (eLf i f)) :=
  PE.imp (pe_ix ix_list (pe_dget hu hv pe_str (fun _ _ => rfl)) he hs) fun _ _ _ => red_lf
theorem stPutAt (i : Nat) {j} (hu : X.A.units + 1 < cLine) (hv : PE X (.Name x p1) (tVar i)) (he : PE X e (tD (dc X c W) f)) (hs : swapsWith e (some (.Subscript (.Name x p1) (.Constant (.str "at") j p2) p3)) pos.line X.env = pure false := by rfl) :
    PS X (.Assign [.Subscript (.Name x p1) (.Constant (.str "at") j p2) p3] e pos) (tS (dc X c W) (sPutAt i f)) := PS.imp (ps_dput hu hv pe_str he hs) fun _ _ _ => red_putAt
theorem stPutLf (i : Nat) {j} {y : Str} {p4 p5 : Pos} (hu : X.A.units + 1 < cLine) (hv : PE X (.Name x p1) (tVar i)) (hq : PE X (.Name y p5) (tD (dc X c W) g)) (he : PE X e (tD (dc X c W) f))
    (hs : swapsWithSole [.Subscript (.Subscript (.Name x p1) (.Constant (.str "lefts") j p2) p3) (.Name y p5) p4] e pos.line X.env = pure false := by rfl) (hw : swappedStores [.Subscript (.Subscript (.Name x p1) (.Constant (.str "lefts") j p2) p3) (.Name y p5) p4] e X.env = pure none := by rfl)
    (h1 : (assignEach [.Subscript (.Subscript (.Name x p1) (.Constant (.str "lefts") j p2) p3) (.Name y p5) p4] X.env).map (·.2) = [assign (.Subscript (.Subscript (.Name x p1) (.Constant (.str "lefts") j p2) p3) (.Name y p5) p4) X.env] := by rfl) :
    PS X (.Assign [.Subscript (.Subscript (.Name x p1) (.Constant (.str "lefts") j p2) p3) (.Name y p5) p4] e pos) (tS (dc X c W) (sPutLf i g f)) :=
  PS.imp (ps_asg he (pg_sub (pe_dget hu hv pe_str (fun _ _ => rfl)) hq set_list) hs hw h1) fun _ _ _ => red_putLf
end
end DL

namespace DL
open L2 PySem PySem.Spec PyProof.Rows
theorem entry_sand : entryFor table "set.__and__" = some Builtin.«frozenset.__and__» := entryFor_alias (id' := "frozenset.__and__") (by kernel_rfl) rfl (by decide +kernel) (by kernel_rfl)
theorem entry_ssub : entryFor table "set.__sub__" = some Builtin.«frozenset.__sub__» := entryFor_alias (id' := "frozenset.__sub__") (by kernel_rfl) rfl (by decide +kernel) (by kernel_rfl)
section
variable {P : Program} {w : World} {A : Around} {E : Value → Shared → Prop} {s : Shared} {a b : Addr} {S T : Int → Bool} {n m : Nat}
theorem SetR.ty {h : Heap} (R : SetR w h a S n) : ∃ o, h.get? a = some o ∧ o.cls = .type "set" := by
  obtain ⟨o, es, ep, t, ho, hx, _⟩ := R
  exact ⟨o, ho, hx.1⟩
theorem isAny (R : SetR w s.heap a S n) {Q : Bool → Shared → Prop} (h : Q true s) : wpAny (model P w) A (Builtin.Frozenset.isAnySet (.ref a)) Q E s := by
  unfold Builtin.Frozenset.isAnySet orM
  refine wpAny_bind (wpAny_isInstance (SetR.ty R) PySem.F.sub_set_set ?_)
  exact wpAny_pure h
theorem base (R : SetR w s.heap a S n) {Q : Value → Shared → Prop} (h : Q (.type "set") s) : wpAny (model P w) A (Builtin.Frozenset.baseOf a) Q E s := by
  unfold Builtin.Frozenset.baseOf
  refine wpAny_bind (wpAny_isInstance (SetR.ty R) PySem.F.sub_set_set ?_)
  exact wpAny_pure h
theorem sizeOf (R : SetR w s.heap a S n) {Q : Nat → Shared → Prop} (h : Q n s) : wpAny (model P w) A (Builtin.Frozenset.sizeOf a) Q E s := by
  obtain ⟨o, es, ep, t, ho, hx, hd, g, nd, hm, hb, hf, hn, hr, hl⟩ := R
  unfold Builtin.Frozenset.sizeOf
  subst hn
  exact wpAny_bind (wpAny_setEntries_of ho hd hf (wpAny_pure h))
theorem newS {Q : Value → Shared → Prop} (h : ∀ h', SetR w h' s.heap.objs.size (fun _ => false) 0 → (∀ b o, s.heap.get? b = some o → h'.get? b = some o) → Q (.ref s.heap.objs.size) { s with heap := h' }) : wpAny (model P w) A (newSet (.type "set")) Q E s :=
  wpAny_newSet_raw fun led hl => by
    subst hl
    exact h _ (setR_fresh w) fun b o e => Heap.get?_push_of_some _ e
theorem epoch (R : SetR w s.heap a S n) {Q : Nat → Shared → Prop} (h : ∀ ep, (∀ h', (∀ o, s.heap.get? a = some o → h'.get? a = some o) → ∀ s', s'.heap = h' → ∀ Q', Q' ep s' → wpAny (model P w) A (setEpoch a) Q' E s') → Q ep s) : wpAny (model P w) A (setEpoch a) Q E s := by
  obtain ⟨o, es, ep, t, ho, hx, hd, g, nd, hm, hb, hf, hn, hr, hl⟩ := R
  refine wpAny_setEpoch_of ho hd hf (h ep fun h' k s' e Q' q => ?_)
  subst e
  exact wpAny_setEpoch_of (k o ho) hd hf q
/-- all that stand in these sets are ints -/
theorem quiet : ∀ (l : List Addr), (∀ c ∈ l, ∃ S n, SetR w s.heap c S n) → ∀ {Q : Bool → Shared → Prop}, Q true s → wpAny (model P w) A (setsQuiet l) Q E s := by
  intro l hl Q h
  unfold setsQuiet
  refine wpAny_bind ?_
  refine wpAny_forIn_list _ (fun rest b s' => b.1 = none ∧ s' = s ∧ ∀ c ∈ rest, ∃ S n, SetR w s.heap c S n) _ ?_ ?_ l _ ⟨rfl, rfl, hl⟩
  · rintro x rest b s' ⟨hb, rfl, hr⟩
    obtain ⟨S, n, R⟩ := hr x (List.mem_cons_self ..)
    obtain ⟨o, es, ep, t, ho, hx, hd, g, nd, hm, hb', hf, hn, hr', hl'⟩ := R
    refine wpAny_bind (wpAny_setEntries_of ho hd hf ?_)
    refine wpAny_bind ?_
    refine wpAny_forIn_array' _ (fun rest2 b2 s2 => b2.1 = none ∧ s2 = s' ∧ ∀ e ∈ rest2, GoodE e) _ ?_ ?_ es _ ⟨rfl, rfl, g⟩
    · rintro ⟨hh, x2⟩ rest2 b2 s2 ⟨hb2, rfl, g2⟩
      obtain ⟨k, tk, e1, _⟩ := g2 _ (List.mem_cons_self ..)
      have e2 : x2 = Value.int k tk := e1
      subst e2
      exact wpAny_pure ⟨rfl, rfl, fun e he => g2 e (List.mem_cons_of_mem _ he)⟩
    · rintro b2 s2 ⟨hb2, rfl, _⟩
      obtain ⟨b21, b22⟩ := b2
      have : b21 = none := hb2
      subst this
      exact wpAny_pure ⟨rfl, rfl, fun c hc => hr c (List.mem_cons_of_mem _ hc)⟩
  · rintro b s' ⟨hb, rfl, _⟩
    obtain ⟨b1, b2⟩ := b
    have : b1 = none := hb
    subst this
    exact wpAny_pure h
theorem walkS (R : SetR w s.heap a S n) {Q : Array (Int × Value) → Shared → Prop} (h : ∀ (l : Array (Int × Value)) d, (∀ e ∈ l.toList, GoodE e) → (l.toList.map keyOf).Nodup → (∀ k, S k = true ↔ k ∈ l.toList.map keyOf) → l.size = n → Q l { s with drawn := d }) : wpAny (model P w) A (setWalk a) Q E s := by
  obtain ⟨o, es, ep, t, ho, hx, hd, g, nd, hm, hb, hf, hn, hr, hl⟩ := R
  have perm : ∀ (l : Array (Int × Value)) d, l.toList.Perm es.toList → Q l { s with drawn := d } := fun l d p =>
    h l d (fun e he => g e (p.mem_iff.mp he)) ((p.map keyOf).nodup_iff.mpr nd) (fun k => (hm k).trans (p.map keyOf).mem_iff.symm) (by rw [← hn, ← Array.length_toList, ← Array.length_toList, p.length_eq])
  unfold setWalk
  refine wpAny_bind (wpAny_setState_of ho hd hf ?_)
  dsimp only
  refine wpAny_bind (wpAny_byText ?_)
  cases hb : w.params.followText "set-order" with
  | true =>
    refine wp_if_pos rfl ?_
    refine wpAny_bind (wpAny_askSetting (wpAny_pure (perm _ s.drawn (pick_perm _ _))))
  | false =>
    refine wp_if_neg (by simp) ?_
    have hled : t.led = true := hl.resolve_left (by rw [hb]; exact Bool.false_ne_true)
    show wpAny _ _ (if (!t.plain && decide (es.size > 1)) = true then _ else _) _ _ _
    cases hdr : (!t.plain && decide (es.size > 1)) with
    | true =>
      refine wp_if_pos rfl ?_
      refine wpAny_bind (drawOrder_at _ _ _ _ (Nat.le_of_eq Array.length_toList) fun ys d hp => ?_)
      exact wpAny_pure (perm ys.toArray d (by simpa using hp))
    | false =>
      refine wp_if_neg (by simp) ?_
      have e : (!t.led && decide (es.size > 1)) = false := by rw [hled]; rfl
      refine wpAny_bind ?_
      show wpAny _ _ (if (!t.led && decide (es.size > 1)) = true then _ else _) _ _ _
      rw [e]
      refine wp_if_neg (by simp) ?_
      exact wpAny_pure (wpAny_pure (perm es s.drawn (List.Perm.refl _)))
/-- the walk of a set whose order nobody sees -/
theorem walkU {r : Addr} {others : List Addr} (R : SetR w s.heap a S n) (R0 : SetR w s.heap r (fun _ => false) 0) (ho : ∀ c ∈ others, ∃ S n, SetR w s.heap c S n) {Q : Array (Int × Value) → Shared → Prop}
    (h : ∀ (l : Array (Int × Value)) d h', (∀ e ∈ l.toList, GoodE e) → (l.toList.map keyOf).Nodup → (∀ k, S k = true ↔ k ∈ l.toList.map keyOf) → l.size = n → Heap.SameBut r s.heap h' → SetR w h' r (fun _ => false) 0 → Q l { s with drawn := d, heap := h' }) :
    wpAny (model P w) A (setWalkUnseen a others (some r)) Q E s := by
  have ⟨o, es, ep, t, ho', hx, hd, g, nd, hm, hb, hf, hn, hr, hl⟩ := R
  have viaWalk : wpAny (model P w) A (setWalk a) Q E s := walkS R fun l d g1 g2 g3 g4 => h l d s.heap g1 g2 g3 g4 (Heap.SameBut.refl r s.heap) R0
  unfold setWalkUnseen
  refine wpAny_bind (wpAny_setState_of ho' hd hf ?_)
  dsimp only
  refine wpAny_bind (wpAny_byText ?_)
  split
  · first | exact viaWalk | exact wpAny_bind (wpAny_mono viaWalk (fun _ _ q => wpAny_pure q) fun _ _ q => q)
  · rename_i hc
    refine wpAny_bind (quiet (a :: others) (fun c hc => ?_) ?_)
    · rcases List.mem_cons.mp hc with e | e
      · subst e; exact ⟨S, n, R⟩
      · exact ho c e
    refine wp_if_neg (by simp) ?_
    refine wpAny_bind (wpAny_rule ?_)
    have ⟨ro, res, rep, rt, rho, rhx, rhd, rg, rnd, rhm, rhb, rhf, rhn, rhr, rhl⟩ := R0
    refine wpAny_bind (wpAny_setState_of rho rhd rhf ?_)
    dsimp only
    have hq := h es s.drawn
    split
    · refine wpAny_bind (wpAny_storeSet_of rho rhd ?_ (fits_of_scanBound rhb))
      have ro1 := store_at (es' := res) (t' := { rt with led := rt.led && t.led, plain := rt.plain && t.plain }) rho rhd
      refine wpAny_pure (hq _ g nd hm hn (Heap.SameBut.update _ r _) ⟨_, res, _, _, ro1, rhx, rfl, rg, rnd, rhm, rhb, rhf, rhn, rhr, ?_⟩)
      rcases rhl with z | z
      · exact .inl z
      · rcases hl with y | y
        · exact .inl y
        · exact .inr (by show (rt.led && t.led) = true; rw [z, y]; rfl)
    · exact wpAny_pure (hq s.heap g nd hm hn (Heap.SameBut.refl r s.heap) R0)
theorem find (R : SetR w s.heap a S n) {e : Int × Value} (ge : GoodE e) {Q : Option Nat → Shared → Prop} (h : ∀ r : Option Nat, r.isSome = S (keyOf e) → Q r s) : wpAny (model P w) A (setFind a e.2 e.1) Q E s := by
  obtain ⟨hh, v⟩ := e
  obtain ⟨k, tk, e1, e2⟩ := ge
  have e1' : v = Value.int k tk := e1
  have e2' : hh = hashInt k := e2
  subst e1' e2'
  exact wpAny_setFind_of (knd := intKind P w) (k := k) (intKind_is P w k tk) rfl R.setOf h
theorem addE {e : Int × Value} (ge : GoodE e) (R : SetR w s.heap a S n) (room : n + 1 < scanBound) {Q : Bool → Shared → Prop}
    (hQ : ∀ b h', Heap.SameBut a s.heap h' → SetR w h' a (fun j => S j || decide (j = keyOf e)) (if S (keyOf e) = true then n else n + 1) → Q b { s with heap := h' }) : wpAny (model P w) A (setAddHashed a e.2 e.1) Q E s := by
  obtain ⟨hh, v⟩ := e
  obtain ⟨k, tk, e1, e2⟩ := ge
  have e1' : v = Value.int k tk := e1
  have e2' : hh = hashInt k := e2
  subst e1' e2'
  exact setR_add_hashed (k := k) (tk := tk) R room fun h' sb r => hQ _ h' sb r
/-- the walk that lays down what passes -/
theorem keepLoop {c o : Addr} {T : Int → Bool} {m : Nat} {neg : Bool} (hco : o ≠ c) (was : Addr) (hwc : was ≠ c) {id : String} {ep : Nat} {body : (Int × Value) → PUnit → Sem (ForInStep PUnit)}
    (hb : ∀ e u (s : Shared) (Q : ForInStep PUnit → Shared → Prop), GoodE e → wpAny (model P w) A (setFind o e.2 e.1) (fun r s1 => if (r.isSome != neg) = true then wpAny (model P w) A (setAddHashed c e.2 e.1) (fun _ s2 => wpAny (model P w) A (setEpoch was) (fun e2 s3 => e2 = ep ∧ Q (.yield ⟨⟩) s3) E s2) E s1
      else wpAny (model P w) A (setEpoch was) (fun e2 s3 => e2 = ep ∧ Q (.yield ⟨⟩) s3) E s1) E s → wpAny (model P w) A (body e u) Q E s)
    (hep : ∀ h' : Heap, (∀ b u, b ≠ c → s.heap.get? b = some u → h'.get? b = some u) → ∀ s' : Shared, s'.heap = h' → ∀ (Q' : Nat → Shared → Prop), Q' ep s' → wpAny (model P w) A (setEpoch was) Q' E s')
    (Ro : SetR w s.heap o T m) {l : List (Int × Value)} (gl : ∀ e ∈ l, GoodE e) (hl : l.length < 1000)
    (Rc : SetR w s.heap c (fun _ => false) 0) {Q : PUnit → Shared → Prop}
    (h : ∀ h' k, (∀ b u, b ≠ c → s.heap.get? b = some u → h'.get? b = some u) → SetR w h' c (fun j => decide (j ∈ l.map keyOf) && (T j != neg)) k → Q ⟨⟩ { s with heap := h' }) :
    wpAny (model P w) A (forIn l ⟨⟩ body) Q E s := by
  refine wpAny_forIn_list _ (fun rest _ s' => ∃ done h' k, l = done ++ rest ∧ s' = { s with heap := h' } ∧ (∀ b u, b ≠ c → s.heap.get? b = some u → h'.get? b = some u) ∧ k ≤ done.length ∧ SetR w h' c (fun j => decide (j ∈ done.map keyOf) && (T j != neg)) k) _ ?_ ?_ l _ ⟨[], s.heap, 0, rfl, rfl, fun _ _ _ e => e, Nat.le_refl _, Rc.congr fun j => by simp⟩
  · rintro e rest u s' ⟨done, h', k, el, rfl, hk, hle, R⟩
    have ge : GoodE e := gl e (by rw [el]; simp)
    have Ro' : SetR w h' o T m := Ro.at fun u e => hk o u hco e
    have hlen : done.length < 1000 := by
      have z := hl
      rw [el, List.length_append] at z
      omega
    have step : ∀ h2 k2, (∀ b u, b ≠ c → h'.get? b = some u → h2.get? b = some u) → k2 ≤ done.length + 1 → SetR w h2 c (fun j => decide (j ∈ (done ++ [e]).map keyOf) && (T j != neg)) k2 →
        wpAny (model P w) A (setEpoch was) (fun e2 s3 => e2 = ep ∧ ∃ done' h'' k', l = done' ++ rest ∧ s3 = { s with heap := h'' } ∧ (∀ b u, b ≠ c → s.heap.get? b = some u → h''.get? b = some u) ∧ k' ≤ done'.length ∧ SetR w h'' c (fun j => decide (j ∈ done'.map keyOf) && (T j != neg)) k') E { s with heap := h2 } := fun h2 k2 kk hk2 R2 =>
      hep h2 (fun b u hb e => kk b u hb (hk b u hb e)) { s with heap := h2 } rfl _ ⟨rfl, done ++ [e], h2, k2, by rw [el]; simp, rfl, fun b u hb e => kk b u hb (hk b u hb e), by rw [List.length_append]; exact hk2, R2⟩
    have hmm : ∀ j, decide (j ∈ (done ++ [e]).map keyOf) = (decide (j ∈ done.map keyOf) || decide (j = keyOf e)) := fun j => by
      rw [List.map_append, List.map_cons, List.map_nil]
      by_cases h1 : j ∈ done.map keyOf
      · simp only [List.mem_append, h1, true_or, decide_true, Bool.true_or]
      · simp only [List.mem_append, h1, false_or, List.mem_singleton, decide_false, Bool.false_or]
    refine hb e u { s with heap := h' } _ ge (find (s := { s with heap := h' }) Ro' ge fun r hr => ?_)
    rw [hr]
    by_cases hc : (T (keyOf e) != neg) = true
    · rw [if_pos hc]
      refine addE (s := { s with heap := h' }) ge R (by unfold scanBound; omega) fun b h2 sb R2 => ?_
      refine step h2 _ (fun b u hb e => (sb.2 b hb).trans e) ?_ (R2.congr fun j => ?_)
      · split <;> omega
      · show (decide (j ∈ (done ++ [e]).map keyOf) && (T j != neg)) = ((decide (j ∈ done.map keyOf) && (T j != neg)) || decide (j = keyOf e))
        rw [hmm]
        by_cases hj : j = keyOf e
        · subst hj
          rw [hc]
          simp
        · rw [decide_eq_false hj, Bool.or_false, Bool.or_false]
    · rw [if_neg hc]
      refine step h' k (fun b u _ e => e) (Nat.le_succ_of_le hle) (R.congr fun j => ?_)
      show (decide (j ∈ (done ++ [e]).map keyOf) && (T j != neg)) = (decide (j ∈ done.map keyOf) && (T j != neg))
      rw [hmm]
      by_cases hj : j = keyOf e
      · subst hj
        have z : (T (keyOf e) != neg) = false := Bool.eq_false_iff.mpr hc
        rw [z, Bool.and_false, Bool.and_false]
      · rw [decide_eq_false hj, Bool.or_false]
  · rintro u s' ⟨done, h', k, el, rfl, hk, hle, R⟩
    have e : l = done := by rw [el, List.append_nil]
    rw [← e] at R
    exact h h' k hk R
/-- the members of both -/
theorem inter {id : String} (Ra : SetR w s.heap a S n) (Rb : SetR w s.heap b T m) (hne : a ≠ b) (hn : n < 1000) (hm : m < 1000) {Q : Value → Shared → Prop}
    (h : ∀ h' k d, SetR w h' s.heap.objs.size (fun j => S j && T j) k → (∀ b o, s.heap.get? b = some o → h'.get? b = some o) → Q (.ref s.heap.objs.size) { s with heap := h', drawn := d }) :
    wpAny (model P w) A (Builtin.Frozenset.intersection id a (.ref b)) Q E s := by
  unfold Builtin.Frozenset.intersection
  have e1 : ((Value.ref b == Value.ref a) = true) = False := by
    refine eq_false fun z => hne ?_
    have z2 := eq_of_beq z
    injection z2 with z3
    exact z3.symm
  refine wp_if_neg (by rw [e1]; exact fun z => z) ?_
  refine wpAny_bind (base Ra (wpAny_bind (newS fun h1 R1 k1 => ?_)))
  refine wpAny_bind (m := Builtin.Frozenset.addrOf _) (wpAny_pure ?_)
  have Ra1 : SetR w h1 a S n := Ra.at fun o e => k1 _ _ e
  have Rb1 : SetR w h1 b T m := Rb.at fun o e => k1 _ _ e
  have hca : a ≠ s.heap.objs.size := Nat.ne_of_lt Ra.lt
  have hcb : b ≠ s.heap.objs.size := Nat.ne_of_lt Rb.lt
  refine wpAny_bind (wpAny_holding ?_)
  refine wpAny_bind (isAny (s := { s with heap := h1 }) Rb1 ?_)
  refine wp_if_pos rfl ?_
  refine wpAny_bind (m := Builtin.Frozenset.addrOf _) (wpAny_pure ?_)
  refine wpAny_bind (sizeOf (s := { s with heap := h1 }) Rb1 ?_)
  refine wpAny_bind (sizeOf (s := { s with heap := h1 }) Ra1 ?_)
  have core : ∀ (asked walked : Addr) (S' T' : Int → Bool) (n' m' : Nat), SetR w h1 walked S' n' → SetR w h1 asked T' m' → asked ≠ s.heap.objs.size → walked ≠ s.heap.objs.size → n' < 1000 → (∀ j, (S j && T j) = (S' j && T' j)) →
      wpAny (model P w) A (do
        let was ← setEpoch walked
        let __do_lift ← setWalkUnseen walked [asked, s.heap.objs.size] (some s.heap.objs.size)
        forIn __do_lift PUnit.unit fun x __s =>
            match x with
            | (h, x) => do
              holding [x] do
                  let __do_lift ← setFind asked x h
                  if __do_lift.isSome = true then do
                      let _ ← setAddHashed s.heap.objs.size x h
                      pure ()
                    else pure ()
              Builtin.Frozenset.unchanged id walked was
              pure (ForInStep.yield PUnit.unit)
        pure ()) (fun a s' => wpAny (model P w) A (pure (Value.ref s.heap.objs.size)) Q E s') E { s with heap := h1 } := by
    intro asked walked S' T' n' m' Rw Rk ha hw hn' hST
    refine wpAny_bind (epoch (s := { s with heap := h1 }) Rw fun ep hep => ?_)
    refine wpAny_bind (walkU (s := { s with heap := h1 }) Rw R1 (fun c hc => ?_) fun l d h2 gl nd hS hsz sb R2 => ?_)
    · rcases List.mem_cons.mp hc with e | e
      · subst e; exact ⟨_, _, Rk⟩
      · rw [List.mem_singleton.mp e]; exact ⟨_, _, R1⟩
    · have k2 : ∀ b u, b ≠ s.heap.objs.size → h1.get? b = some u → h2.get? b = some u := fun b u hb e => (sb.2 b hb).trans e
      rw [← Array.forIn_toList]
      refine wpAny_bind (keepLoop (s := { s with heap := h2, drawn := d }) (neg := false) (T := T') (m := m') (id := id) (ep := ep) (was := walked) ha hw ?_ ?_ (Rk.at fun u e => k2 asked u ha e) gl (by rw [Array.length_toList, hsz]; exact hn') R2 ?_)
      · rintro ⟨hh, x⟩ u s' Q' ge q
        refine wpAny_bind (wpAny_holding (wpAny_bind (wpAny_mono q (fun r s1 q1 => ?_) fun _ _ z => z)))
        cases hr : r.isSome with
        | true =>
          rw [hr] at q1
          refine wp_if_pos rfl ?_
          refine wpAny_bind (wpAny_mono q1 (fun _ s2 q2 => wpAny_pure ?_) fun _ _ z => z)
          unfold Builtin.Frozenset.unchanged
          refine wpAny_bind (wpAny_bind (wpAny_mono q2 (fun e2 s3 q3 => ?_) fun _ _ z => z))
          obtain ⟨rfl, q3⟩ := q3
          refine wp_if_neg (by simp) ?_
          exact wpAny_pure (wpAny_pure q3)
        | false =>
          rw [hr] at q1
          refine wp_if_neg (by simp) ?_
          refine wpAny_pure ?_
          unfold Builtin.Frozenset.unchanged
          refine wpAny_bind (wpAny_bind (wpAny_mono q1 (fun e2 s3 q3 => ?_) fun _ _ z => z))
          obtain ⟨rfl, q3⟩ := q3
          refine wp_if_neg (by simp) ?_
          exact wpAny_pure (wpAny_pure q3)
      · intro h3 k3 s' e Q' q
        exact hep h3 (fun o e => k3 _ _ hw (k2 _ _ hw e)) s' e Q' q
      · intro h3 k k3 R3
        refine wpAny_pure (wpAny_pure (h h3 k d (R3.congr fun j => ?_) fun b o e => ?_))
        · show (S j && T j) = (decide (j ∈ l.toList.map keyOf) && (T' j != false))
          rw [hST]
          have z : S' j = decide (j ∈ l.toList.map keyOf) := by
            rw [Bool.eq_iff_iff, hS j, decide_eq_true_eq]
          rw [← z]
          simp
        · have hb : b ≠ s.heap.objs.size := Nat.ne_of_lt (Heap.lt_size e)
          exact k3 _ _ hb (k2 _ _ hb (k1 _ _ e))
  by_cases hmn : m > n
  · rw [if_pos hmn]
    exact core b a S T n m Ra1 Rb1 hcb hca hn fun j => rfl
  · rw [if_neg hmn]
    exact core a b T S m n Rb1 Ra1 hca hcb hm fun j => Bool.and_comm _ _
/-- the members of the one that are not of the other -/
theorem differ {id : String} (Ra : SetR w s.heap a S n) (Rb : SetR w s.heap b T m) (hn : n < 1000) (hq : n / 4 ≤ m) {Q : Value → Shared → Prop}
    (h : ∀ h' k d, SetR w h' s.heap.objs.size (fun j => S j && !T j) k → (∀ b o, s.heap.get? b = some o → h'.get? b = some o) → Q (.ref s.heap.objs.size) { s with heap := h', drawn := d }) :
    wpAny (model P w) A (Builtin.Frozenset.difference id a (.ref b)) Q E s := by
  unfold Builtin.Frozenset.difference
  refine wpAny_bind (isAny Rb ?_)
  refine wp_if_neg (by simp) ?_
  refine wpAny_bind (m := Builtin.Frozenset.addrOf _) (wpAny_pure ?_)
  refine wp_if_neg (by simp) ?_
  show wpAny _ _ (if true = true then _ else _) _ _ _
  refine wp_if_pos rfl (wpAny_bind (sizeOf Rb ?_))
  refine wpAny_bind (m := pure _) (wpAny_pure ?_)
  refine wpAny_bind (sizeOf Ra ?_)
  refine wp_if_neg (by omega) ?_
  refine wpAny_bind (base Ra (wpAny_bind (newS fun h1 R1 k1 => ?_)))
  refine wpAny_bind (m := Builtin.Frozenset.addrOf _) (wpAny_pure ?_)
  have Ra1 : SetR w h1 a S n := Ra.at fun o e => k1 _ _ e
  have Rb1 : SetR w h1 b T m := Rb.at fun o e => k1 _ _ e
  have hca : a ≠ s.heap.objs.size := Nat.ne_of_lt Ra.lt
  have hcb : b ≠ s.heap.objs.size := Nat.ne_of_lt Rb.lt
  refine wpAny_bind (epoch (s := { s with heap := h1 }) Ra1 fun ep hep => ?_)
  refine wpAny_bind (wpAny_holding ?_)
  refine wpAny_bind ?_
  refine wp_if_pos rfl (walkU (s := { s with heap := h1 }) Ra1 R1 (fun c hc => ?_) fun l d h2 gl nd hS hsz sb R2 => ?_)
  · rcases List.mem_cons.mp hc with e | e
    · subst e; exact ⟨_, _, Rb1⟩
    · rw [List.mem_singleton.mp e]; exact ⟨_, _, R1⟩
  · have k2 : ∀ b u, b ≠ s.heap.objs.size → h1.get? b = some u → h2.get? b = some u := fun b u hb e => (sb.2 b hb).trans e
    rw [← Array.forIn_toList]
    refine wpAny_bind (keepLoop (s := { s with heap := h2, drawn := d }) (neg := true) (T := T) (m := m) (id := id) (ep := ep) (was := a) hcb hca ?_ ?_ (Rb1.at fun u e => k2 b u hcb e) gl (by rw [Array.length_toList, hsz]; exact hn) R2 ?_)
    · rintro ⟨hh, x⟩ u s' Q' ge q
      refine wpAny_bind (wpAny_holding ?_)
      show wpAny _ _ (if true = true then _ else _) _ _ _
      refine wp_if_pos rfl (wpAny_bind (wpAny_mono q (fun r s1 q1 => ?_) fun _ _ z => z))
      refine wpAny_bind (m := pure _) (wpAny_pure ?_)
      cases hr : r.isSome with
      | false =>
        rw [hr] at q1
        refine wp_if_pos rfl ?_
        refine wpAny_bind (wpAny_mono q1 (fun _ s2 q2 => wpAny_pure ?_) fun _ _ z => z)
        unfold Builtin.Frozenset.unchanged
        refine wpAny_bind (wpAny_bind (wpAny_mono q2 (fun e2 s3 q3 => ?_) fun _ _ z => z))
        obtain ⟨rfl, q3⟩ := q3
        refine wp_if_neg (by simp) ?_
        exact wpAny_pure (wpAny_pure q3)
      | true =>
        rw [hr] at q1
        refine wp_if_neg (by simp) ?_
        refine wpAny_pure ?_
        unfold Builtin.Frozenset.unchanged
        refine wpAny_bind (wpAny_bind (wpAny_mono q1 (fun e2 s3 q3 => ?_) fun _ _ z => z))
        obtain ⟨rfl, q3⟩ := q3
        refine wp_if_neg (by simp) ?_
        exact wpAny_pure (wpAny_pure q3)
    · intro h3 k3 s' e Q' q
      exact hep h3 (fun o e => k3 _ _ hca (k2 _ _ hca e)) s' e Q' q
    · intro h3 k k3 R3
      refine wpAny_pure (wpAny_pure (h h3 k d (R3.congr fun j => ?_) fun b o e => ?_))
      · show (S j && !T j) = (decide (j ∈ l.toList.map keyOf) && (T j != true))
        have z : S j = decide (j ∈ l.toList.map keyOf) := by
          rw [Bool.eq_iff_iff, hS j, decide_eq_true_eq]
        rw [← z]
        cases T j <;> rfl
      · have hb : b ≠ s.heap.objs.size := Nat.ne_of_lt (Heap.lt_size e)
        exact k3 _ _ hb (k2 _ _ hb (k1 _ _ e))
theorem op_and_sets (Ra : SetR w s.heap a S n) (Rb : SetR w s.heap b T m) (hne : a ≠ b) (hn : n < 1000) (hm : m < 1000) {Q : Value → Shared → Prop}
    (h : ∀ h' k d, SetR w h' s.heap.objs.size (fun j => S j && T j) k → (∀ b o, s.heap.get? b = some o → h'.get? b = some o) → Q (.ref s.heap.objs.size) { s with heap := h', drawn := d }) :
    wpAny (model P w) A (binaryOp .BitAnd (.ref a) (.ref b)) Q E s := by
  refine wpAny_binaryOp_same (T := "set") (id := "set.__and__") (SetR.ty Ra) (SetR.ty Rb) PySem.F.fills_set_and PySem.F.slot_set_and ?_
  refine wpAny_call_entry PySem.F.slot_set_and (SetR.ty Ra) entry_sand ?_ (PySem.F.args_set_and_2 _ _)
  show wpAny _ _ (Builtin.«frozenset.__and__» ⟨[.ref a, .ref b], []⟩) _ _ _
  refine wpAny_bind (m := Builtin.Frozenset.slot1 "__and__" _) (wpAny_pure ?_)
  refine wpAny_bind (m := andM _ _) (wpAny_bind (isAny Ra (isAny Rb ?_)))
  refine wp_if_neg (by simp) ?_
  refine wpAny_bind (m := Builtin.Frozenset.addrOf _) (wpAny_pure ?_)
  refine wpAny_bind (inter Ra Rb hne hn hm fun h' k d R kk => ?_)
  exact wpAny_pure ⟨_, rfl, (by intro z; cases z), h h' k d R kk⟩
theorem op_sub_sets (Ra : SetR w s.heap a S n) (Rb : SetR w s.heap b T m) (hn : n < 1000) (hq : n / 4 ≤ m) {Q : Value → Shared → Prop}
    (h : ∀ h' k d, SetR w h' s.heap.objs.size (fun j => S j && !T j) k → (∀ b o, s.heap.get? b = some o → h'.get? b = some o) → Q (.ref s.heap.objs.size) { s with heap := h', drawn := d }) :
    wpAny (model P w) A (binaryOp .Sub (.ref a) (.ref b)) Q E s := by
  refine wpAny_binaryOp_same (T := "set") (id := "set.__sub__") (SetR.ty Ra) (SetR.ty Rb) PySem.F.fills_set_sub PySem.F.slot_set_sub ?_
  refine wpAny_call_entry PySem.F.slot_set_sub (SetR.ty Ra) entry_ssub ?_ (PySem.F.args_set_sub_2 _ _)
  show wpAny _ _ (Builtin.«frozenset.__sub__» ⟨[.ref a, .ref b], []⟩) _ _ _
  refine wpAny_bind (m := Builtin.Frozenset.slot1 "__sub__" _) (wpAny_pure ?_)
  refine wpAny_bind (m := andM _ _) (wpAny_bind (isAny Ra (isAny Rb ?_)))
  refine wp_if_neg (by simp) ?_
  refine wpAny_bind (m := Builtin.Frozenset.addrOf _) (wpAny_pure ?_)
  refine wpAny_bind (differ Ra Rb hn hq fun h' k d R kk => ?_)
  exact wpAny_pure ⟨_, rfl, (by intro z; cases z), h h' k d R kk⟩
end
end DL

namespace DL
open L2 PySem PySem.Spec PyProof.Rows
theorem SetR.count {w : World} {h : Heap} {a : Addr} {S : Int → Bool} {k : Nat} (R : SetR w h a S k) {ns : List Int} (hn : ns.Nodup) (hm : ∀ j, S j = true ↔ j ∈ ns) : k = ns.length := by
  obtain ⟨o, es, ep, t, ho, hx, hd, g, nd, hm2, hb, hf, hk, hr, hl⟩ := R
  have p : (es.toList.map keyOf).Perm ns := (List.perm_ext_iff_of_nodup nd hn).mpr fun j => (hm2 j).symm.trans (hm j)
  rw [← hk, ← Array.length_toList, ← List.length_map (f := keyOf), p.length_eq]
theorem SetR.le {w : World} {h : Heap} {a : Addr} {S : Int → Bool} {k : Nat} (R : SetR w h a S k) : k < 4096 := by
  obtain ⟨o, es, ep, t, ho, hx, hd, g, nd, hm2, hb, hf, hk, hr, hl⟩ := R
  rw [← hk]; exact hb
theorem gE.later {C : Dc} {α β : Type} {φ : (Nat → Option Addr) → α → β → Hp → Prop} {x : RE α} {P : List (V × PyData)} {ow : Nat → Option Addr} {r : List SV} {σ : L2.St} {H H' : Hp} {Q : β → Hp → Prop} (k : Keep (SAd C.c.sa) H H') (h : gE C φ x P ow r σ H Q) : gE C φ x P ow r σ H' Q := by
  cases x with
  | ok d w' => exact fun v H2 k2 R p => h v H2 (k.trans k2) R p
  | ex n y w' => exact fun H2 k2 R => h H2 (k.trans k2) R
  | bad => exact h
def Cnt (S : Int → Bool) (k : Nat) : Prop := ∀ ns : List Int, ns.Nodup → (∀ j, S j = true ↔ j ∈ ns) → k = ns.length
section
variable {X : Cx}
def rSetI (K : PySem.W.Frag) (w : World) : List V → Hp → VK → Prop := fun xs H Q => ∃ (l : Addr) (ns : List Int), xs = [.ref l] ∧ SqT K H l (ns.map V.int) ∧ ns.length < 1000 ∧
  ∀ p k, H p = none → k < 1000 → Cnt (fun j => decide (j ∈ ns)) k → Q (.ref p) (upd H p (SetO w p (fun j => decide (j ∈ ns)) k))
theorem c_setI (hc : X.calm = true) : CallR X (.type "set") (rSetI X.K X.w) := by
  intro pins s σ H xs us Q I r h
  obtain ⟨l, ns, rfl, hq, hl, q⟩ := h
  cases r with
  | cons r rr =>
    cases rr
    cases r
    obtain ⟨its, rv, pt, hz⟩ := I.tuple hq
    have hi : IntsAre its.toArray.toList ns := ints_of_vals rv
    refine call_set_tupI ns (I.ok.hd hc) (show s.heap.IsTuple l its.toArray from pt) hi (by unfold scanBound; omega) fun h' tk c R1 hcn k => ?_
    exact ⟨.ref _, upd H s.heap.objs.size (SetO X.w s.heap.objs.size (fun j => decide (j ∈ ns)) c), I.laid (t' := tk) k (Nat.le_refl _) (setO_new R1), rfl, q _ c (I.hok.fresh (Nat.le_refl _)) (by omega) fun ms h1 h2 => SetR.count R1 h1 h2⟩
def rSets (w : World) (z : Bool → Bool → Bool) (ok : Nat → Nat → Prop) : R2 := fun x y H Q => ∃ (a b : Addr) (S T : Int → Bool) (n m : Nat), x = .ref a ∧ y = .ref b ∧ a ≠ b ∧ H a = some (SetO w a S n) ∧ H b = some (SetO w b T m) ∧ n < 1000 ∧ m < 1000 ∧ ok n m ∧
  ∀ p k, H p = none → k < 4096 → Cnt (fun j => z (S j) (T j)) k → Q (.ref p) (upd H p (SetO w p (fun j => z (S j) (T j)) k))
theorem o_sand : OpR X (binaryOp .BitAnd) (rSets X.w (fun a b => a && b) fun _ _ => True) := by
  intro pins s σ H x y v u Q I rx ry h
  obtain ⟨a, b, S, T, n, m, rfl, rfl, hne, ha, hb, hn, hm, _, q⟩ := h
  cases rx
  cases ry
  refine op_and_sets (setO_get I ha) (setO_get I hb) hne hn hm fun h' k d R kk => ?_
  have fr : H s.heap.objs.size = none := I.hok.fresh (Nat.le_refl _)
  have J : Inv X pins σ (upd H s.heap.objs.size (SetO X.w s.heap.objs.size (fun j => S j && T j) k)) { s with heap := h', drawn := d } :=
    I.call (ch := []) (Un.laid kk (Nat.le_refl _) fr) (I.hok.laid kk (Nat.le_refl _) (setO_new R)) I.bare (fun _ z => nomatch z)
  exact ⟨.ref _, _, J, rfl, q _ k fr (SetR.le R) fun ms h1 h2 => SetR.count R h1 h2⟩
theorem o_ssub : OpR X (binaryOp .Sub) (rSets X.w (fun a b => a && !b) fun n m => n / 4 ≤ m) := by
  intro pins s σ H x y v u Q I rx ry h
  obtain ⟨a, b, S, T, n, m, rfl, rfl, hne, ha, hb, hn, hm, hq, q⟩ := h
  cases rx
  cases ry
  refine op_sub_sets (setO_get I ha) (setO_get I hb) hn hq fun h' k d R kk => ?_
  have fr : H s.heap.objs.size = none := I.hok.fresh (Nat.le_refl _)
  have J : Inv X pins σ (upd H s.heap.objs.size (SetO X.w s.heap.objs.size (fun j => S j && !T j) k)) { s with heap := h', drawn := d } :=
    I.call (ch := []) (Un.laid kk (Nat.le_refl _) fr) (I.hok.laid kk (Nat.le_refl _) (setO_new R)) I.bare (fun _ z => nomatch z)
  exact ⟨.ref _, _, J, rfl, q _ k fr (SetR.le R) fun ms h1 h2 => SetR.count R h1 h2⟩
def rLenS (w : World) : List V → Hp → VK → Prop := fun xs H Q => ∃ (a : Addr) (S : Int → Bool) (n : Nat), xs = [.ref a] ∧ H a = some (SetO w a S n) ∧ n < 4096 ∧ Q (.int n) H
theorem c_lenS : CallR X (.builtin "len") (rLenS X.w) := by
  intro pins s σ H xs us Q I r h
  obtain ⟨a, S, n, rfl, ha, hlt, q⟩ := h
  cases r with
  | cons r rr =>
    cases rr
    cases r
    obtain ⟨o, es, ep, t, ho, hx, hd, g, nd, hm2, hb, hf, hk, hr, hl⟩ := setO_get I ha
    subst hk
    exact call_len_set ho hx hd hf (by omega) ⟨.int es.size, H, I.tok _, ⟨_, rfl⟩, q⟩
end
/-! ## len(set(a) & set(b)), len(set(a) - set(b)) on tuples of ints without doubles -/
def tupI : PyData → Option (List Int)
  | .tuple ds => (toInts ds).bind fun ns => if ns.length < 1000 ∧ ns.Nodup then some ns else none
  | _ => none
def eSets (z : Bool → Bool → Bool) (ok : Nat → Nat → Bool) (fa fb : EM) : EM := fun r w => (fa r w).bind fun d w1 =>
  match tupI d with
  | none => .bad
  | some ns => (fb r w1).bind fun e w2 =>
    match tupI e with
    | none => .bad
    | some ms => if ok ns.length ms.length = true then .ok (.int ((ns.filter fun j => z true (decide (j ∈ ms))).length : Nat)) w2 else .bad
abbrev zAnd : Bool → Bool → Bool := fun a b => a && b
abbrev zSub : Bool → Bool → Bool := fun a b => a && !b
theorem tupI_of {d : PyData} {ns : List Int} (h : tupI d = some ns) : ∃ ds, d = .tuple ds ∧ toInts ds = some ns ∧ ns.length < 1000 ∧ ns.Nodup := by
  cases d with
  | tuple ds =>
    have h2 : ((toInts ds).bind fun ns => if ns.length < 1000 ∧ ns.Nodup then some ns else none) = some ns := h
    cases e : toInts ds with
    | none => rw [e] at h2; cases h2
    | some ms =>
      rw [e] at h2
      have h3 : (if ms.length < 1000 ∧ ms.Nodup then some ms else none) = some ns := h2
      by_cases c : ms.length < 1000 ∧ ms.Nodup
      · rw [if_pos c] at h3
        cases h3
        exact ⟨ds, rfl, e, c.1, c.2⟩
      · rw [if_neg c] at h3; cases h3
  | _ => cases h
section
variable {C : Dc} {σ : L2.St} {H : Hp} {Q : VK}
theorem ref_tup {K : PySem.W.Frag} {H : Hp} {O : Addr → Prop} {v : V} {ds : List PyData} {ns : List Int} (h : Do K H O v (.tuple ds)) (e : toInts ds = some ns) : ∃ l, v = .ref l ∧ SqT K H l (ns.map V.int) := by
  cases h with
  | tup r _ a =>
    have x := toInts_do a e
    subst x
    exact ⟨_, rfl, r⟩
theorem red_sets {w0 : World} {z : Bool → Bool → Bool} {ok : Nat → Nat → Bool} {okP : Nat → Nat → Prop} (hok : ∀ n m, ok n m = true → okP n m) (hz : ∀ b, z false b = false) {fa fb : EM} (h : tD C (eSets z ok fa fb) σ H Q) :
    tCB (rLenS w0) (tCons (tOp (rSets w0 z okP) (tCB (rSetI C.K w0) (tCons (tD C fa) tNil)) (tCB (rSetI C.K w0) (tCons (tD C fb) tNil))) tNil) σ H Q := by
  obtain ⟨P, ow, r, w, R, h⟩ := h
  refine ⟨P, ow, r, w, R, gE.bind h fun d w1 u H1 _ k1 R1 p1 h1 => ?_⟩
  cases e1 : tupI d with
  | none => rw [e1] at h1; exact h1.elim
  | some ns =>
    rw [e1] at h1
    obtain ⟨ds, rfl, t1, l1, n1⟩ := tupI_of e1
    obtain ⟨la, rfl, q1⟩ := ref_tup p1 t1
    refine ⟨la, ns, rfl, q1, l1, fun p k hp hk hc => ?_⟩
    have s2 : Same H1 (upd H1 p (SetO w0 p (fun j => decide (j ∈ ns)) k)) := same_new hp
    have st2 := step_same R1 s2
    refine ⟨P, ow, r, w1, st2.2, gE.bind (gE.later st2.1 h1) fun e w2 y H3 _ k3 R3 p3 h3 => ?_⟩
    cases e2 : tupI e with
    | none => rw [e2] at h3; exact h3.elim
    | some ms =>
      rw [e2] at h3
      obtain ⟨es, rfl, t2, l2, n2⟩ := tupI_of e2
      obtain ⟨lb, rfl, q2⟩ := ref_tup p3 t2
      have h4 : gE C (fD C) (if ok ns.length ms.length = true then .ok (.int ((ns.filter fun j => z true (decide (j ∈ ms))).length : Nat)) w2 else .bad) P ow r σ H3 Q := h3
      by_cases ho : ok ns.length ms.length = true
      · rw [if_pos ho] at h4
        refine ⟨lb, ms, rfl, q2, l2, fun p' k' hp' hk' hc' => ?_⟩
        have hp3 : H3 p = some (SetO w0 p (fun j => decide (j ∈ ns)) k) := k3.same _ _ upd_same fun c => R1.fresh hp (R1.subO _ c)
        have hne : p ≠ p' := ne_of_none hp3 hp'
        have ek : k = ns.length := hc ns n1 fun j => decide_eq_true_iff
        have ek' : k' = ms.length := hc' ms n2 fun j => decide_eq_true_iff
        subst ek ek'
        have s4 : Same H3 (upd H3 p' (SetO w0 p' (fun j => decide (j ∈ ms)) ms.length)) := same_new hp'
        refine ⟨p, p', _, _, ns.length, ms.length, rfl, rfl, hne, s4 _ _ hp3, upd_same, hk, hk', hok _ _ ho, fun p2 k2 hp2 hk2 hc2 => ?_⟩
        have ek2 : k2 = (ns.filter fun j => z true (decide (j ∈ ms))).length := by
          refine hc2 _ (n1.filter _) fun j => ?_
          rw [List.mem_filter]
          by_cases hj : j ∈ ns
          · simp [hj]
          · simp [hj, hz]
        subst ek2
        refine ⟨p2, _, _, rfl, upd_same, hk2, ?_⟩
        have s5 : Same H3 (upd (upd H3 p' (SetO w0 p' (fun j => decide (j ∈ ms)) ms.length)) p2 (SetO w0 p2 (fun j => z (decide (j ∈ ns)) (decide (j ∈ ms))) (ns.filter fun j => z true (decide (j ∈ ms))).length)) := fun b o e => same_new hp2 _ _ (s4 _ _ e)
        have st5 := step_same R3 s5
        exact h4.ret st5.1 st5.2 (.int _)
      · rw [if_neg ho] at h4; exact h4.elim
end
section
variable {X : Cx} {c : Cn} {W : XW} {a b : Expr} {fa fb : EM} {pos p p1 p2 p3 p4 p5 p6 : Pos}
theorem dSets {op : Operator} {z : Bool → Bool → Bool} {ok : Nat → Nat → Bool} {okP : Nat → Nat → Prop} (hop : OpR X (binaryOp op) (rSets X.w z okP)) (hok : ∀ n m, ok n m = true → okP n m) (hz : ∀ b, z false b = false)
    {xl xs : Str} (hc : X.calm = true) (hg : Gl X xl) (hm : X.mg xl = none) (hb : bootBuiltins xl = some (.builtin "len")) (hn : xl ≠ "__name__") (hdb : (xl == ("__debug__" : Str)) = false) (hg2 : Gl X xs) (hm2 : X.mg xs = none) (hb2 : bootBuiltins xs = some (.type "set")) (hn2 : xs ≠ "__name__") (hdb2 : (xs == ("__debug__" : Str)) = false)
    (ha : PE X a (tD (dc X c W) fa)) (hb' : PE X b (tD (dc X c W) fb))
    (sa : starEach [a] X.env = (false, eval a X.env) :: starEach [] X.env := by rfl) (sb : starEach [b] X.env = (false, eval b X.env) :: starEach [] X.env := by rfl)
    (se : starEach [.BinOp (.Call (.Name xs p3) [a] [] p4) op (.Call (.Name xs p5) [b] [] p6) p2] X.env = (false, eval (.BinOp (.Call (.Name xs p3) [a] [] p4) op (.Call (.Name xs p5) [b] [] p6) p2) X.env) :: starEach [] X.env := by rfl)
    (l1 : (backTo p4 (starEach [] X.env)).any (·.1) = false := by rfl) (l2 : (backTo p6 (starEach [] X.env)).any (·.1) = false := by rfl) (l3 : (backTo pos (starEach [] X.env)).any (·.1) = false := by rfl) :
    PE X (.Call (.Name xl p1) [.BinOp (.Call (.Name xs p3) [a] [] p4) op (.Call (.Name xs p5) [b] [] p6) p2] [] pos) (tD (dc X c W) (eSets z ok fa fb)) :=
  PE.imp (pe_callB c_lenS hg hm hb (pa_cons (pe_op hop (pe_callTy (c_setI hc) hg2 hm2 hb2 (pa_cons ha pa_nil sa) hn2 hdb2 sa l1) (pe_callTy (c_setI hc) hg2 hm2 hb2 (pa_cons hb' pa_nil sb) hn2 hdb2 sb l2)) pa_nil se) hn hdb se l3) fun _ _ _ => red_sets hok hz
end
end DL

namespace DL
open L2 PySem PySem.Spec PyProof.Rows
/-! ## set(t) of a tuple of tuples of ints -/
abbrev freshS (w : World) : Obj := { cls := .type "set", dict := none, data := .set #[] 0 (.fresh 0 0 (!w.params.followText "set-order")) }
section
variable {P : Program} {w : World} {A : Around} {E : Value → Shared → Prop} {s : Shared}
/-- set(v): what its __init__ has to do with the new, empty set -/
theorem set_call {v : Value} {Φ : Heap → Nat → Prop} {Q : Value → Shared → Prop}
    (upd : ∀ A2 : Around, A2.handled = A.handled → (A.units + 3 < cLine → A2.in1.units < cLine) → wpAny (model P w) A2 (Builtin.Frozenset.updateFrom "set.__init__" s.heap.objs.size v) (fun _ s2 => ∃ h' tk, s2 = { s with heap := h', toks := tk } ∧ Φ h' tk) E { s with heap := s.heap.push (freshS w) })
    (fin : ∀ h' tk, Φ h' tk → Q (.ref s.heap.objs.size) { s with heap := h', toks := tk }) : wpAny (model P w) A (call (.type "set") [v]) Q E s := by
  obtain ⟨c0, tl0, mr⟩ := PySem.F.called_set.mro
  have md := PySem.F.called_set.made; have sb := PySem.F.called_set.sub
  refine wpAny_call (codeAny_of_tree (show wpAny (model P w) _ (callAny (.type "set") _) _ _ _ from wpAny_pure ⟨Code.quiet_builtin _ (by decide +kernel), codeAny_builtin F.entry_type_call ?_⟩))
  rw [Around.under_plain (weight_type_call_type "set" [v] []) rfl]
  have n1 := PySem.F.called_set.notType; have n2 := PySem.F.called_set.canCreate; have n3 := F.typeCall_set_1 v
  repeat (any_goals (first | assumption | wp_step))
  refine codeAny_mono (code_set_led1 v (E := E) (Q₁ := fun obj s₁ => obj = .ref s.heap.objs.size ∧ s₁ = { s with heap := s.heap.push (freshS w) }) ⟨rfl, rfl⟩) fun r s₁ hr => ?_
  match r, hr with
  | .error e, hr => exact hr
  | .ok (.ret obj), hr =>
    obtain ⟨e1, e2⟩ := hr
    subst e1 e2
    have g0 : (s.heap.push (freshS w)).get? s.heap.objs.size = some (freshS w) := Heap.get?_push_size _ rfl
    have t0 : Shared.TypeIs { s with heap := s.heap.push (freshS w) } (.ref s.heap.objs.size) "set" := ⟨_, g0, rfl⟩
    have l0 := PySem.F.called_set.init.lookup; have b0 := PySem.F.called_set.init.bind (.ref s.heap.objs.size)
    repeat (any_goals (first | assumption | wp_step))
    refine codeAny_mono (codeAny_call_builtin (R := wants (fun r s₂ => r = .none ∧ ∃ h' tk, s₂ = { s with heap := h', toks := tk } ∧ Φ h' tk) E) PySem.F.called_set.init.plain F.entry_set_init (check_set_init_1 t0 ?_)) fun r₂ s₂ hr₂ => ?_
    · unfold Builtin.«set.__init__» noKeywords
      generalize hUF : Builtin.Frozenset.updateFrom = UF
      wp_walk
      subst hUF
      refine wpAny_mono (upd A.in1.in1 (by simp) (fun z => z)) (fun _ s2 q => ?_) fun _ _ q => q
      obtain ⟨h', tk, e, ph⟩ := q
      subst e
      exact wpAny_pure ⟨rfl, h', tk, rfl, ph⟩
    · match r₂, hr₂ with
      | .error e, hr₂ => exact hr₂
      | .ok (.ret r3), hr₂ =>
        obtain ⟨e3, h', tk, e4, ph⟩ := hr₂
        subst e3 e4
        repeat (any_goals (first | assumption | wp_step))
        exact fin _ _ ph
      | .ok .next, hr₂ => exact hr₂.elim
      | .ok .brk, hr₂ => exact hr₂.elim
      | .ok .cont, hr₂ => exact hr₂.elim
  | .ok .next, hr => exact hr.elim
  | .ok .brk, hr => exact hr.elim
  | .ok .cont, hr => exact hr.elim
theorem set_tupT {l : Addr} {its : Array Value} (ks : List (Addr × List Int)) {Q : Value → Shared → Prop} (nh : A.handled = none) (tl : s.heap.IsTuple l its) (ei : its.toList = ks.map fun p => Value.ref p.1)
    (tk : ∀ p ∈ ks, IsT P w s.heap p.2 p.1) (few : ks.length < 64) (un : A.units + 3 < cLine)
    (h : ∀ (h' : Heap) (tk : Nat) L, SetT0 P w h' s.heap.objs.size L → Got ks ks.length L → (∀ b o, s.heap.get? b = some o → h'.get? b = some o) → Q (.ref s.heap.objs.size) { s with heap := h', toks := tk }) :
    wpAny (model P w) A (call (.type "set") [.ref l]) Q E s := by
  have sz : its.size = ks.length := by rw [← Array.length_toList, ei, List.length_map]
  refine set_call (Φ := fun h' _ => ∃ L, SetT0 P w h' s.heap.objs.size L ∧ Got ks ks.length L ∧ ∀ b o, s.heap.get? b = some o → h'.get? b = some o) (fun A2 e2 u2 => ?_) fun h' tk ⟨L, a, b, c⟩ => h h' tk L a b c
  have g0 : (s.heap.push (freshS w)).get? s.heap.objs.size = some (freshS w) := Heap.get?_push_size _ rfl
  have tl1 : (s.heap.push (freshS w)).IsTuple l its := tl.push _
  have ty : Shared.TypeIs { s with heap := s.heap.push (freshS w) } (.ref l) "tuple" := by
    obtain ⟨o, a, b, _⟩ := tl1
    exact ⟨o, a, b⟩
  have ll : l < s.heap.objs.size := by
    obtain ⟨o, a, _⟩ := tl
    exact Heap.lt_size a
  have hz : (s.heap.push (freshS w)).objs.size = s.heap.objs.size + 1 := size_push' _ _
  unfold Builtin.Frozenset.updateFrom
  refine wpAny_bind (m := Builtin.Frozenset.isAnySet (.ref l)) ?_
  unfold Builtin.Frozenset.isAnySet orM
  refine wpAny_bind (wpAny_isInstance ty PySem.F.sub_tuple_set ?_)
  show wpAny _ _ (isInstance (.ref l) (.type "frozenset")) _ _ _
  refine wpAny_isInstance ty PySem.F.sub_tuple_frozenset ?_
  refine wp_if_neg (by simp) ?_
  refine wpAny_bind (wpAny_typeOf ty ?_)
  refine wp_if_neg (by decide) ?_
  refine wpAny_bind (wpAny_pyIter_tuple tl1 ?_)
  refine wpAny_bind (wpAny_runValue ?_)
  have out : ∀ b, s.heap.objs.size ≤ b → s.heap.get? b = none := fun b hb => by
    cases q : s.heap.get? b with
    | none => rfl
    | some o => exact absurd (Nat.lt_of_lt_of_le (Heap.lt_size q) hb) (Nat.lt_irrefl _)
  have nI : l ≠ (s.heap.push (freshS w)).objs.size := by rw [hz]; exact Nat.ne_of_lt (Nat.lt_succ_of_lt ll)
  refine set_update_tups ((Walks.tuple (by first | (rw [← nh, ← e2]; done) | (rw [← nh, ← e2]; simp)) _ l nI its).toS) s.heap.objs.size (by
      rw [hz]; intro z
      rcases List.mem_cons.mp z with z | z
      · exact absurd z (Nat.ne_of_lt (Nat.lt_succ_self _))
      · exact absurd (List.mem_singleton.mp z).symm (Nat.ne_of_lt ll)) ks sz few (fun i v hv => ?_) s.heap tk (out _ (Nat.le_refl _)) (fun b hb => out b (by
      rw [List.mem_singleton.mp hb, hz]
      exact Nat.le_succ _)) (u2 un) (its.size - 0) 0 _ (by omega) (Nat.zero_le _) ⟨⟨_, Heap.get?_push_size _ rfl, rfl, rfl⟩, tl1.push _⟩
    (fun b o e => Heap.get?_push_of_some _ (Heap.get?_push_of_some _ e)) ⟨[], #[], 0, _, setTR_fresh (Heap.get?_push_of_some _ g0), Got.zero ks⟩ fun s' L es ep t hm hS' g' hkp => ?_
  · have q : its.toList[i]? = some v := by rw [Array.getElem?_toList]; exact hv
    rw [ei, List.getElem?_map] at q
    cases hq : ks[i]? with
    | none => rw [hq] at q; cases q
    | some p => rw [hq] at q; exact ⟨p, rfl, (Option.some.inj q).symm⟩
  · obtain ⟨h', g2, d', tk', os'⟩ := s'
    have eg : g2 = s.gens := hm.gens
    have ed : d' = s.drawn := hm.drawn
    have eo : os' = s.os := hm.os
    subst eg ed eo
    rw [sz] at g'
    exact wpAny_pure ⟨h', tk', rfl, L, hS'.t0, g', hkp⟩
end
section
variable {X : Cx}
def rSetTT (K : PySem.W.Frag) (P : Program) (w : World) : List V → Hp → VK → Prop := fun xs H Q => ∃ (l : Addr) (ks : List (Addr × List Int)), xs = [V.ref l] ∧ SqT K H l (ks.map fun p => V.ref p.1) ∧ (∀ p ∈ ks, SqT K H p.1 (p.2.map V.int)) ∧ ks.length < 64 ∧
  ∀ a L, H a = none → (∀ p ∈ L, p ∈ ks) → (∀ p ∈ ks, p.2 ∈ L.map (·.2)) → Q (.ref a) (upd H a (SetTO P w a L))
theorem c_setTT (hc : X.calm = true) (hu : X.A.units + 64 < cLine) : CallR X (.type "set") (rSetTT X.K X.prog X.w) := by
  intro pins s σ H xs us Q I r h
  obtain ⟨l, ks, rfl, hl, hk, hf, q⟩ := h
  rw [Vals.ref1 r]
  obtain ⟨its, rv, pt, hz⟩ := I.tuple hl
  have hn : H s.heap.objs.size = none := I.hok.fresh (Nat.le_refl _)
  refine set_tupT (P := X.prog) (w := X.w) (its := its.toArray) ks (I.ok.hd hc) pt (by simpa using refs_of_vals rv) (fun p hp => I.isT (hk p hp)) hf (by omega) fun h' tk L R g k => ?_
  exact ⟨.ref _, upd H s.heap.objs.size (SetTO X.prog X.w s.heap.objs.size L), I.laid (t' := tk) k (Nat.le_refl _) (setTO_new R), rfl, q _ L hn (fun p hp => List.mem_of_mem_take (g.sub p hp)) fun p hp => g.all p (by rw [List.take_length]; exact hp)⟩
end
end DL

namespace DL
open L2 PySem PySem.Spec PyProof.Rows
/-! ## sorted(set(t)) of a tuple of pairs of small ints -/
def toPr : List PyData → Option (List (Int × Int))
  | [] => some []
  | .tuple [.int a, .int b] :: r => (toPr r).map ((a, b) :: ·)
  | _ :: _ => none
def uniq : List Int → List Int
  | [] => []
  | x :: r => if x ∈ uniq r then uniq r else x :: uniq r
theorem uniq_mem : ∀ (l : List Int) (j : Int), j ∈ uniq l ↔ j ∈ l
  | [], _ => Iff.rfl
  | x :: r, j => by
    unfold uniq
    have ih := uniq_mem r j
    split
    · rename_i h
      rw [ih, List.mem_cons]
      exact ⟨.inr, fun z => z.elim (fun e => by subst e; exact (uniq_mem r j).mp h) id⟩
    · rw [List.mem_cons, List.mem_cons, ih]
theorem uniq_nodup : ∀ l : List Int, (uniq l).Nodup
  | [] => List.nodup_nil
  | x :: r => by
    unfold uniq
    split
    · exact uniq_nodup r
    · rename_i h
      exact List.nodup_cons.mpr ⟨h, uniq_nodup r⟩
def prC (p : Int × Int) : Int := p.1 * 64 + p.2
def prD (c : Int) : PyData := .tuple [.int (c / 64), .int (c % 64)]
def small (p : Int × Int) : Bool := decide (0 ≤ p.1 ∧ p.1 < 64 ∧ 0 ≤ p.2 ∧ p.2 < 64)
def setSortL (ps : List (Int × Int)) : List Int := isort (uniq (ps.map prC))
def setSortD : PyData → Option PyData
  | .tuple ds => (toPr ds).bind fun ps => if ps.length < 64 ∧ ps.all small = true then some (.list ((setSortL ps).map prD)) else none
  | _ => none
theorem prs_of {K : PySem.W.Frag} {H : Hp} {O : Addr → Prop} : ∀ {xs : List V} {ds : List PyData} {ps : List (Int × Int)}, DoAll K H O xs ds → toPr ds = some ps →
    ∃ ks : List (Addr × List Int), xs = ks.map (fun p => V.ref p.1) ∧ ks.map (·.2) = ps.map (fun p => [p.1, p.2]) ∧ ∀ p ∈ ks, H p.1 = some (.tup (p.2.map V.int))
  | _, [], ps, .nil, e => by
    cases e
    exact ⟨[], rfl, rfl, fun p hp => by cases hp⟩
  | _, d :: ds, ps, .cons h t, e => by
    unfold toPr at e
    split at e
    · rename_i heq
      cases heq
    · rename_i a b r heq
      cases heq
      cases e2 : toPr ds with
      | none => rw [e2] at e; cases e
      | some qs =>
        rw [e2] at e
        cases e
        obtain ⟨ks, h1, h2, h3⟩ := prs_of t e2
        cases h with
        | @tup A xs2 _ r0 z0 a0 =>
          cases a0 with
          | cons ha a1 =>
            cases a1 with
            | cons hb a2 =>
              cases a2
              cases ha
              cases hb
              refine ⟨(A, [a, b]) :: ks, by rw [h1]; rfl, by rw [List.map_cons, h2]; rfl, fun p hp => ?_⟩
              rcases List.mem_cons.mp hp with z | z
              · subst z; exact z0.resolve_right (by simp [strsD])
              · exact h3 p z
    · cases e
section
variable {C : Dc} {σ : L2.St} {H : Hp} {Q : VK}
theorem small_code {x y : Int} (h : small (x, y) = true) : prC (x, y) / 64 = x ∧ prC (x, y) % 64 = y := by
  have q := of_decide_eq_true h
  unfold prC
  simp only at q ⊢
  omega
theorem red_setSort {pg : Program} {w0 : World} {f : EM} (h : tD C (eUn setSortD f) σ H Q) : tCB (rSortedT C.K pg w0) (tCons (tCB (rSetTT C.K pg w0) (tCons (tD C f) tNil)) tNil) σ H Q := by
  obtain ⟨P, ow, r, w, R, h⟩ := h
  refine ⟨P, ow, r, w, R, gE.bind h fun d w1 u H1 _ k1 R1 p1 h1 => ?_⟩
  cases e1 : setSortD d with
  | none => rw [e1] at h1; exact h1.elim
  | some z =>
    rw [e1] at h1
    cases d with
    | tuple ds =>
      have e2 : ((toPr ds).bind fun ps => if ps.length < 64 ∧ ps.all small = true then some (PyData.list ((setSortL ps).map prD)) else none) = some z := e1
      cases e3 : toPr ds with
      | none => rw [e3] at e2; cases e2
      | some ps =>
        rw [e3] at e2
        have e4 : (if ps.length < 64 ∧ ps.all small = true then some (PyData.list ((setSortL ps).map prD)) else none) = some z := e2
        by_cases hc : ps.length < 64 ∧ ps.all small = true
        · rw [if_pos hc] at e4
          cases e4
          obtain ⟨hlen, hsm⟩ := hc
          cases p1 with
          | @tup l xs _ q1 _ a1 =>
            obtain ⟨ks, hx, hk2, hks⟩ := prs_of a1 e3
            subst hx
            have lks : ks.length = ps.length := by
              have z := congrArg List.length hk2
              rw [List.length_map, List.length_map] at z
              exact z
            refine ⟨l, ks, rfl, q1, fun p hp => SqT.of (hks p hp), by omega, fun a L hp hsub hall => ?_⟩
            have s2 : Same H1 (upd H1 a (SetTO pg w0 a L)) := same_new hp
            have inps : ∀ q ∈ ks, ∃ p ∈ ps, q.2 = [p.1, p.2] := fun q hq => by
              have z : q.2 ∈ ps.map fun p => [p.1, p.2] := by rw [← hk2]; exact List.mem_map_of_mem hq
              obtain ⟨p, hp, e⟩ := List.mem_map.mp z
              exact ⟨p, hp, e.symm⟩
            have sm : ∀ p ∈ ps, small p = true := fun p hp => List.all_eq_true.mp hsm p hp
            refine ⟨a, L, 2, 64, rfl, upd_same, fun p hp => SqT.of (s2 _ _ (hks p (hsub p hp))), by omega, fun p hp => ?_, fun L' b pm nd few pw hb => ?_⟩
            · obtain ⟨q, hq, e⟩ := inps p (hsub p hp)
              have z := of_decide_eq_true (sm q hq)
              rw [e]
              refine ⟨rfl, ?_⟩
              intro x hx
              simp only [List.mem_cons, List.not_mem_nil, or_false] at hx
              rcases hx with rfl | rfl
              · exact ⟨z.1, z.2.1⟩
              · exact ⟨z.2.2.1, z.2.2.2⟩
            · have subL' : ∀ q ∈ L', q ∈ ks := fun q hq => hsub q (pm.mem_iff.mp hq)
              -- the codes of what comes out
              have codes : L'.map (fun q => TS.code 64 q.2) = setSortL ps := by
                refine sorted_unique ?_ (List.pairwise_map.mpr pw) (isort_sorted _)
                refine ((List.perm_ext_iff_of_nodup ?_ (uniq_nodup _)).mpr fun j => ?_).trans (isort_perm _).symm
                · have inj : ∀ q ∈ L', ∀ q' ∈ L', TS.code 64 q.2 = TS.code 64 q'.2 → q.2 = q'.2 := fun q hq q' hq' e => by
                    obtain ⟨p, hp, e1⟩ := inps q (subL' q hq)
                    obtain ⟨p', hp', e1'⟩ := inps q' (subL' q' hq')
                    rw [e1, e1', code_pair, code_pair] at e
                    have z := of_decide_eq_true (sm p hp)
                    have z' := of_decide_eq_true (sm p' hp')
                    rw [e1, e1']
                    have a1 : p.1 = p'.1 := by omega
                    have a2 : p.2 = p'.2 := by omega
                    rw [a1, a2]
                  rw [List.nodup_iff_pairwise_ne, List.pairwise_map] at nd ⊢
                  exact nd.imp_of_mem fun hq hq' hne e => hne (inj _ hq _ hq' e)
                · rw [uniq_mem, List.mem_map, List.mem_map]
                  constructor
                  · rintro ⟨q, hq, e⟩
                    obtain ⟨p, hp, e1⟩ := inps q (subL' q hq)
                    refine ⟨p, hp, ?_⟩
                    rw [← e, e1, code_pair]
                    rfl
                  · rintro ⟨p, hp, e⟩
                    have z : [p.1, p.2] ∈ ks.map (·.2) := by rw [hk2]; exact List.mem_map_of_mem (f := fun p : Int × Int => [p.1, p.2]) hp
                    obtain ⟨q, hq, e1⟩ := List.mem_map.mp z
                    obtain ⟨q', hq', e2⟩ := List.mem_map.mp (hall q hq)
                    refine ⟨q', pm.mem_iff.mpr hq', ?_⟩
                    rw [e2, e1, code_pair, ← e]
                    rfl
              have s3 : Same H1 (upd (upd H1 a (SetTO pg w0 a L)) b (.lst (L'.map fun q => V.ref q.1))) := fun x o e => same_new hb _ _ (s2 _ _ e)
              have st3 := step_same R1 s3
              refine h1.ret st3.1 st3.2 (.lst upd_same (fun z => ?_) ?_)
              · obtain ⟨o, e⟩ := R1.dom' b z
                rw [s2 _ _ e] at hb
                cases hb
              · rw [← codes, List.map_map]
                refine DoAll.of_map L' fun q hq => ?_
                obtain ⟨p, hp, e1⟩ := inps q (subL' q hq)
                have t0 : H1 q.1 = some (.tup (q.2.map V.int)) := hks q (subL' q hq)
                have z := small_code (x := p.1) (y := p.2) (sm p hp)
                show Do C.K _ _ (.ref q.1) (prD (TS.code 64 q.2))
                rw [e1, code_pair]
                unfold prD
                rw [show p.1 * 64 + p.2 = prC (p.1, p.2) from rfl, z.1, z.2]
                rw [e1] at t0
                exact .tupN (s3 _ _ t0) (.cons (.int _) (.cons (.int _) .nil))
        · rw [if_neg hc] at e4; cases e4
    | _ => cases e1
end
section
variable {X : Cx} {c : Cn} {W : XW} {e : Expr} {f : EM} {pos p1 p2 p3 : Pos}
theorem dSetSort {xl xs : Str} (hc : X.calm = true) (hu : X.A.units + 64 < cLine) (hg : Gl X xl) (hm : X.mg xl = none) (hb : bootBuiltins xl = some (.builtin "sorted")) (hn : xl ≠ "__name__") (hdb : (xl == ("__debug__" : Str)) = false) (hg2 : Gl X xs) (hm2 : X.mg xs = none) (hb2 : bootBuiltins xs = some (.type "set")) (hn2 : xs ≠ "__name__") (hdb2 : (xs == ("__debug__" : Str)) = false)
    (he : PE X e (tD (dc X c W) f)) (sa : starEach [e] X.env = (false, eval e X.env) :: starEach [] X.env := by rfl) (se : starEach [.Call (.Name xs p2) [e] [] p3] X.env = (false, eval (.Call (.Name xs p2) [e] [] p3) X.env) :: starEach [] X.env := by rfl)
    (l1 : (backTo p3 (starEach [] X.env)).any (·.1) = false := by rfl) (l2 : (backTo pos (starEach [] X.env)).any (·.1) = false := by rfl) :
    PE X (.Call (.Name xl p1) [.Call (.Name xs p2) [e] [] p3] [] pos) (tD (dc X c W) (eUn setSortD f)) :=
  PE.imp (pe_callB (cr_sortedT hc) hg hm hb (pa_cons (pe_callTy (c_setTT hc hu) hg2 hm2 hb2 (pa_cons he pa_nil sa) hn2 hdb2 sa l1) pa_nil se) hn hdb se l2) fun _ _ _ => red_setSort
end
end DL

namespace DL
open L2 PySem PySem.Spec PyProof.Rows
/-! ## defs by their names -/
structure CalD (P : Program) (w : World) (K : PySem.W.Frag) (mg : Str → Option Value) (base : Heap) (k : Nat) (x : Str) (st : Stmt) (ps : List Str) (n : Nat) (G : FM) : Prop where
  ex : ∃ (f : Addr) (fd : FuncData), FnG P w K mg base k f fd ps (spD mg K n G) ∧ mg x = some (.ref f) ∧ PySem.W.keepIn K (.ref f) = true ∧ Binds K fd ps [] ∧ Fun K x x st f fd
theorem calD {P : Program} {w : World} {K : PySem.W.Frag} {mg : Str → Option Value} {base : Heap} {k : Nat} {x : Str} {ps : List Str} {n : Nat} {G : FM} {f : Addr} {fd : FuncData} {st : Stmt} (F : Fun K x x st f fd) (G0 : FnG P w K mg base k f fd ps (spD mg K n G)) (m : mg x = some (.ref f)) (b : Binds K fd ps []) : CalD P w K mg base k x st ps n G :=
  ⟨f, fd, G0, m, F.kp, b, F⟩
section
variable {X : Cx} {c : Cn} {W : XW} {pos p : Pos} {x : Str} {e : Expr} {es : List Expr} {k : Nat} {ps ks : List Str} {n : Nat} {G : FM} {fa : AM} {st : Stmt}
theorem dFc (C : CalD X.prog X.w X.K X.mg X.base k x st ps n G) (hr : Room k X.A) (hgd : X.A.guards = some []) (hg : Gl X x) (ha : PA X (e :: es) (tA (dc X c W) fa)) (hn : ArN n fa) (hdb : (x == ("__debug__" : Str)) = false := by decide)
    (he : starEach (e :: es) X.env = (false, eval e X.env) :: starEach es X.env := by rfl) (hpl : (backTo pos (starEach es X.env)).any (·.1) = false := by rfl) : PE X (.Call (.Name x p) (e :: es) [] pos) (tD (dc X c W) (eFn G fa)) := by
  obtain ⟨f, fd, F, m, kp, b, _⟩ := C.ex
  exact dFn F hr hgd hg m kp b ha hn hdb he hpl
theorem dFc0 (C : CalD X.prog X.w X.K X.mg X.base k x st ps 0 G) (hr : Room k X.A) (hgd : X.A.guards = some []) (hg : Gl X x) (hdb : (x == ("__debug__" : Str)) = false := by decide) : PE X (.Call (.Name x p) [] [] pos) (tD (dc X c W) (eFn G aNl)) := by
  obtain ⟨f, fd, F, m, kp, b, _⟩ := C.ex
  exact dFn0 F hr hgd hg m kp b hdb
theorem kwB {K : PySem.W.Frag} {x : Str} {st : Stmt} {f : Addr} {fd : FuncData} {ps ks : List Str} {ix : List Nat} (F : Fun K x x st f fd)
    (h : ∀ (kV doc pm : Value) (an : Option Addr) (cdv ct : Value) (ws : List Value), ws.length = ks.length → bindArgs (PySem.W.fnOf x x (defArgs st) (defBody st) (defScope st) .none kV doc pm an cdv ct) ⟨[], ks.zip ws⟩ = pure (ps.zip (pick ix ws))) : KwBinds K fd ps ks ix := by
  obtain ⟨oc, od, kV, doc, pm, an, cdv, ct, osl, rfl, lk, hcd⟩ := F.ex
  exact fun s ws _ hl => .of_eq (h kV doc pm an cdv ct ws hl)
theorem dFcK {m : Nat} {ix : List Nat} {kws : List Keyword} (C : CalD X.prog X.w X.K X.mg X.base k x st ps n G) (hr : Room k X.A) (hgd : X.A.guards = some []) (hg : Gl X x)
    (hb : ∀ (kV doc pm : Value) (an : Option Addr) (cdv ct : Value) (ws : List Value), ws.length = ks.length → bindArgs (PySem.W.fnOf x x (defArgs st) (defBody st) (defScope st) .none kV doc pm an cdv ct) ⟨[], ks.zip ws⟩ = pure (ps.zip (pick ix ws)))
    (hkw : PK X kws (tA (dc X c W) fa)) (hn : ArN m fa) (hm2 : ks.length = m) (hn2 : ∀ l : List SV, l.length = m → (pick ix l).length = n) (hall : (backToKw pos (keywordEach kws X.env)).all (·.1.isSome) = true := by rfl) (hks : (backToKw pos (keywordEach kws X.env)).filterMap (·.1) = ks := by rfl) (hdb : (x == ("__debug__" : Str)) = false := by decide)
    (hpl : ((backTo pos (starEach [] X.env)).any (·.1) || (backToKw pos (keywordEach kws X.env)).any (·.1.isNone)) = false := by rfl) :
    PE X (.Call (.Name x p) [] kws pos) (tD (dc X c W) (eFn G (aPk ix fa))) := by
  obtain ⟨f, fd, F, m0, kp, b, FF⟩ := C.ex
  exact dFnK F hr hgd hg m0 kp (kwB FF hb) hkw hn hm2 hn2 hall hks hdb hpl
/-! ## what is not read here -/
def sBad : SM := fun _ _ => .bad
def eBad : EM := fun _ _ => .bad
theorem stBad {st : Stmt} : PS X st (tS (dc X c W) sBad) := ⟨fun _ _ _ _ _ _ ⟨_, _, _, _, _, q⟩ => q.elim⟩
theorem dBad {e : Expr} : PE X e (tD (dc X c W) eBad) := ⟨fun _ _ _ _ _ _ ⟨_, _, _, _, _, q⟩ => q.elim⟩
/-! ## a module's number -/
theorem dGn {i : Int} {u : Value} (hg : Gl X x) (hm : X.mg x = some u) (r : RelV (.int i) u) (hd : (x == ("__debug__" : Str)) = false := by decide) : PE X (.Name x pos) (tD (dc X c W) (eC (.int i))) := PE.imp (pe_glob hg hm r hd) fun _ _ _ => red_c fun _ _ => .int i
end
end DL

namespace DL
open L2 PySem PySem.Spec PyProof.Rows
/-! ## the beginning: from the script to the draws' state -/
structure Begun (H H' : Hp) (s : SA) (w : DS) : Prop where
  same : Same H H'
  st : StOk (some s) w H'
  na : H s.a = none
  nl : H s.l = none
  nc : H s.c = none
  num : w.num = 0
  len : w.cells.length ≤ 63
def spBegin (K : PySem.W.Frag) : Sp := fun vs H Q _ => ∃ (a : Addr) (ns : List Int), vs = [.ref a] ∧ SqL K H a (ns.map V.int) ∧ ns.length ≤ 63 ∧ ∀ H' s w, Begun H H' s w → Q (.ref s.a) H'
def spLaw (K : PySem.W.Frag) : Sp := fun vs H Q _ => ∃ (a : Addr) (ns : List Int), vs = [.ref a] ∧ SqL K H a (ns.map V.int) ∧ ns.length ≤ 63 ∧ TabsP (TK K) H ∧ ∀ H', Q (.bl true) H'
theorem pss_ex {X : Cx} {α : Type} {ss : List Stmt} {t : α → TS} (h : ∀ a, PSs X ss (t a)) : PSs X ss (fun D σ H => ∃ a, t a D σ H) := ⟨fun pins s σ H D I ⟨a, q⟩ => (h a).run pins s σ H D I q⟩
def leftOf (c : Int) : Int := if 10 ^ 18 ≤ c then c else 0
/-- the law's body behind the beginning -/
theorem law_rest {mg : Str → Option Value} {K : PySem.W.Frag} {body : SM} {m : Nat} {H H' : Hp} {s : SA} {w w' : DS} {v0 : V} {rest : List (Option V)} {Q : VK} (b : Begun H H' s w) (hT : TabsP (TK K) H)
    (hb : body (SV.un :: SV.st :: List.replicate m SV.un) w = .rt (.bool true) w') (hm : rest.length = m) (q : ∀ H', Q (.bl true) H') :
    ∃ c : Cn, tS ⟨mg, K, c, WF⟩ body { nx := fun _ H' => Q .non H', rt := Q } (some v0 :: some (.ref s.a) :: rest) H' := by
  have T2 : TabsP (TK K) H' := fun P q z => (hT P q z).ext b.same
  have st2 : StOk (some { s with T := TK K }) w H' := fun s2 e => by
    cases e
    exact ⟨T2, (b.st s rfl).2⟩
  refine ⟨⟨some { s with T := TK K }, SAd (some { s with T := TK K }), H'⟩, [], fun _ => none, SV.un :: SV.st :: List.replicate m SV.un, w, ⟨⟨fun _ h => h, fun x hx => ?_⟩, by simp [hm], fun i sv e => ?_, .refl, fun i a e => (by cases e), fun i j a e => (by cases e), st2, fun p hp => (by cases hp), _, rfl, rfl⟩, ?_⟩
  · obtain ⟨h0, h1, h2, h3, _⟩ := st2 _ rfl
    obtain ⟨s', e, hx⟩ := hx
    cases e
    rcases hx with rfl | rfl | rfl | ⟨q, hx⟩
    · exact ⟨_, h1⟩
    · exact ⟨_, h3⟩
    · exact ⟨_, h2⟩
    · obtain ⟨ps, a1, _⟩ := h0 _ _ hx
      exact ⟨_, a1⟩
  · match i, e with
    | 0, e => cases e; exact ⟨_, rfl, trivial⟩
    | 1, e => cases e; exact ⟨_, rfl, _, rfl, rfl⟩
    | i + 2, e =>
      have e2 : (List.replicate m SV.un)[i]? = some sv := e
      rw [List.getElem?_replicate] at e2
      by_cases hi : i < m
      · rw [if_pos hi] at e2
        cases e2
        exact ⟨rest[i]'(by omega), by show rest[i]? = _; rw [List.getElem?_eq_getElem (by omega)], trivial⟩
      · rw [if_neg hi] at e2; cases e2
  · rw [hb]
    intro v H2 _ _ d
    cases d
    exact q H2
theorem mk_begun {H H1 H2 : Hp} {p C D : Addr} {cells : List Int} (s1 : Same H H1) (hp : H1 p = none) (hC : H C = none) (eC : H1 C = some (.lst (cells.map V.int))) (pos : 0 < cells.length) (len : cells.length ≤ 63)
    (nD : H1 D = none) (npD : p ≠ D) (e : H2 = upd (upd (upd H1 p (.dK [])) D (.lst (cells.map fun c => V.int (leftOf c)))) p (.dK (mergeK [] [(.inr "cells", .ref C), (.inr "lefts", .ref D), (.inr "at", .int 0)]))) : Begun H H2 ⟨p, D, C, fun _ _ => False, none⟩ ⟨cells, cells.map leftOf, 0⟩ := by
  have pC : C ≠ p := ne_of_none eC hp
  have CD : C ≠ D := ne_of_none eC nD
  have hpH : H p = none := by
    cases q : H p with
    | none => rfl
    | some o => rw [s1 _ _ q] at hp; cases hp
  have hDH : H D = none := by
    cases q : H D with
    | none => rfl
    | some o => rw [s1 _ _ q] at nD; cases nD
  subst e
  refine ⟨fun b o q => ?_, fun s es => ?_, hpH, hDH, hC, rfl, len⟩
  · have b1 : b ≠ p := fun z => by rw [z, hpH] at q; cases q
    have b2 : b ≠ D := fun z => by rw [z, hDH] at q; cases q
    rw [upd_ne b1, upd_ne b2, upd_ne b1]
    exact s1 _ _ q
  · cases es
    refine ⟨fun _ _ hp => hp.elim, ?_, ?_, ?_, fun z => CD z.symm, by simp, pos⟩
    · rw [upd_same]
      rfl
    · rw [upd_ne pC, upd_ne CD, upd_ne pC]; exact eC
    · rw [upd_ne (fun z => npD z.symm), upd_same, List.map_map]
      rfl
theorem begin_ret {K : PySem.W.Frag} {H H1 : Hp} {a C : Addr} {cells : List Int} {Q : VK} (s1 : Same H H1) (hC : H C = none) (eC : H1 C = some (.lst (cells.map V.int))) (pos : 0 < cells.length) (len : cells.length ≤ 63)
    (q : ∀ H' s w, Begun H H' s w → Q (.ref s.a) H') :
    tRet (tDisp [(tC (V.str "cells"), tVar 1), (tC (V.str "lefts"), tLc (iList K (tVar 1)) (gName 2) tYes
      (tIf (tTest (tOp (rI0 fun i j => V.bl (decide (j ≤ i))) (tVar 2) (tOp (rI CPow fun i j => V.int (i ^ j.toNat)) (tC (V.int 10)) (tC (V.int 18))))) (tVar 2) (tC (V.int 0))) [2]), (tC (V.str "at"), tC (V.int 0))])
      { nx := fun _ H' => Q .non H', rt := Q } [some (.ref a), some (.ref C), none] H1 := by
  intro p hp
  have pC : C ≠ p := ne_of_none eC hp
  have eC2 : (upd H1 p (.dK [])) C = some (.lst (cells.map V.int)) := by rw [upd_ne pC]; exact eC
  refine ⟨.ref C, rfl, .ref C, rfl, C, rfl, ⟨_, SqL.of eC2⟩, fun D hD => ?_⟩
  have Dp : D ≠ p := fun z => by rw [z, upd_same] at hD; cases hD
  have nD : H1 D = none := by rw [upd_ne Dp] at hD; exact hD
  have DC : C ≠ D := ne_of_none eC2 hD
  refine lc_it (walk_list (xs := cells.map V.int)) (fun i H2 => H2 = upd (upd H1 p (.dK [])) D (.lst ((cells.take i).map fun c => V.int (leftOf c)))) rfl (fun i H2 _ e => ?_) (fun i x H2 H3 hi e y => ?_) fun H2 e => ?_
  · subst e
    exact SqL.of (by rw [upd_ne DC]; exact eC2)
  · subst e
    obtain ⟨rfl, ex⟩ := y
    rw [List.getElem?_map] at ex
    rw [List.length_map] at hi
    cases ec : cells[i]? with
    | none => rw [ec] at ex; cases ex
    | some c =>
      rw [ec] at ex
      have ex' : V.int c = x := Option.some.inj ex
      subst ex'
      refine ⟨rfl, ?_⟩
      have stp : upd (upd (upd H1 p (.dK [])) D (.lst ((cells.take i).map fun c => V.int (leftOf c)))) D (.lst (((cells.take i).map fun c => V.int (leftOf c)) ++ [V.int (leftOf c)])) = upd (upd H1 p (.dK [])) D (.lst ((cells.take (i + 1)).map fun c => V.int (leftOf c))) := by
        have e2 : (cells.take (i + 1)).map (fun c => V.int (leftOf c)) = ((cells.take i).map fun c => V.int (leftOf c)) ++ [V.int (leftOf c)] := by
          rw [List.take_add_one, ec, List.map_append]
          rfl
        rw [e2]
        funext b
        by_cases hb : b = D
        · subst hb; rw [upd_same, upd_same]
        · rw [upd_ne hb, upd_ne hb, upd_ne hb]
      have hl : ((cells.take i).map fun c => V.int (leftOf c)).length < sizeLine := by
        rw [List.length_map, List.length_take]
        exact Nat.lt_of_lt_of_le (by show min i cells.length < szL; unfold szL; omega) szL_le
      refine ⟨.int c, rfl, 10, 18, rfl, rfl, ⟨by decide, by decide, by decide⟩, c, 10 ^ (18 : Int).toNat, rfl, rfl, _, rfl, ?_⟩
      have fin : ∀ z : Int, leftOf c = z → ∃ acc, (upd (upd H1 p (.dK [])) D (.lst ((cells.take i).map fun c => V.int (leftOf c)))) D = some (.lst acc) ∧ acc.length < sizeLine ∧
          upd (upd (upd H1 p (.dK [])) D (.lst ((cells.take i).map fun c => V.int (leftOf c)))) D (.lst (acc ++ [V.int z])) = upd (upd H1 p (.dK [])) D (.lst ((cells.take (i + 1)).map fun c => V.int (leftOf c))) := fun z e => by
        subst e
        exact ⟨_, upd_same, hl, stp⟩
      have e18 : (10 : Int) ^ (18 : Int).toNat = 10 ^ 18 := rfl
      by_cases hc : (10 : Int) ^ 18 ≤ c
      · have hd : decide ((10 : Int) ^ (18 : Int).toNat ≤ c) = true := decide_eq_true (by rw [e18]; exact hc)
        rw [hd]
        exact ⟨.int c, rfl, fin c (if_pos hc)⟩
      · have hd : decide ((10 : Int) ^ (18 : Int).toNat ≤ c) = false := decide_eq_false (by rw [e18]; exact hc)
        rw [hd]
        exact fin 0 (if_neg hc)
  · subst e
    have tk : cells.take (cells.map V.int).length = cells := by rw [List.length_map]; exact List.take_length
    rw [tk]
    refine ⟨by rw [upd_ne Dp.symm, upd_same], [(.inr "cells", .ref C), (.inr "lefts", .ref D), (.inr "at", .int 0)], rfl, Nat.le_of_ble_eq_true rfl, q _ ⟨p, D, C, fun _ _ => False, none⟩ ⟨cells, cells.map leftOf, 0⟩ (mk_begun s1 hp hC eC pos len nD Dp.symm rfl)⟩
theorem shaped_ints : ∀ ns : List Int, SeqAt.shaped (.list (ns.map PyData.int)) = true := by
  have h : ∀ ns : List Int, PyData.canLayAll0 (ns.map PyData.int) = true ∧ PyData.depthAll (ns.map PyData.int) = 0 := by
    intro ns
    induction ns with
    | nil => exact ⟨rfl, rfl⟩
    | cons n r ih => exact ⟨by show (true && PyData.canLayAll0 (r.map PyData.int)) = true; rw [ih.1]; rfl, by show max 0 (PyData.depthAll (r.map PyData.int)) = 0; rw [ih.2]; rfl⟩
  intro ns
  unfold SeqAt.shaped
  show (PyData.canLayAll0 (ns.map PyData.int) && decide (PyData.depthAll (ns.map PyData.int) + 1 ≤ 64)) = true
  rw [(h ns).1, (h ns).2]
  rfl
theorem begin_read {K : PySem.W.Frag} {H : Hp} {a : Addr} {ns : List Int} {Q : VK} (hS : SqL K H a (ns.map V.int)) (hlen : ns.length ≤ 63) (q : ∀ H' s w, Begun H H' s w → Q (.ref s.a) H') :
    tSeq (tAsg (tIf (tTest (tOp (rNeD K) (tVar 0) (tLst tNil))) (tCB (fun xs H Q => ∃ p ys, xs = [V.ref p] ∧ (SqL K H p ys ∨ SqT K H p ys) ∧ ∀ l, H l = none → Q (.ref l) (upd H l (.lst ys))) (tCons (tVar 0) tNil)) (tLst (tCons (tC (.int 0)) tNil))) (gName 1))
    (tRet (tDisp [(tC (V.str "cells"), tVar 1), (tC (V.str "lefts"), tLc (iList K (tVar 1)) (gName 2) tYes
      (tIf (tTest (tOp (rI0 fun i j => V.bl (decide (j ≤ i))) (tVar 2) (tOp (rI CPow fun i j => V.int (i ^ j.toNat)) (tC (V.int 10)) (tC (V.int 18))))) (tVar 2) (tC (V.int 0))) [2]), (tC (V.str "at"), tC (V.int 0))]))
      { nx := fun _ H' => Q .non H', rt := Q } [some (.ref a), none, none] H := by
  have dpi : ∀ (H : Hp) (ns : List Int), DpAll K H (ns.map V.int) (ns.map PyData.int) := fun H ns => (DoAll.ints (O := fun _ => False) ns).dp (by
    induction ns with
    | nil => rfl
    | cons n ns ih => rw [List.map_cons, PyData.hasDictAll, ih]; rfl)
  refine ⟨.ref a, rfl, Nat.zero_le _, fun e0 he0 => ?_⟩
  have s1 : Same H (upd H e0 (.lst [])) := same_new he0
  refine ⟨.list (ns.map PyData.int), .list [], .lst (s1.seq hS) (dpi _ ns), .lst (SqL.of upd_same) .nil, shaped_ints ns, rfl, _, rfl, ?_⟩
  cases ns with
  | nil =>
    refine ⟨Nat.le_trans (by decide : 1 ≤ szL) szL_le, fun C hC => ?_⟩
    have hC0 : H C = none := by
      cases z : H C with
      | none => rfl
      | some o => rw [s1 _ _ z] at hC; cases hC
    exact begin_ret (cells := [0]) (fun b o z => same_new hC _ _ (s1 _ _ z)) hC0 upd_same (by decide) (by decide) q
  | cons n r =>
    refine ⟨.ref a, rfl, a, _, rfl, .inl (s1.seq hS), fun C hC => ?_⟩
    have hC0 : H C = none := by
      cases z : H C with
      | none => rfl
      | some o => rw [s1 _ _ z] at hC; cases hC
    exact begin_ret (cells := n :: r) (fun b o z => same_new hC _ _ (s1 _ _ z)) hC0 upd_same (by simp) hlen q
end DL

namespace DL
open L2 PySem PySem.Spec PyProof.Rows
/-! ## the law's end, for a def that is promised where no repr is running -/
section
variable {P : Program} {w : World} {K : PySem.W.Frag} {mg mb : Str → Option Value} {k : Nat} {fa a : Addr} {fd : FuncData} {x : Str} {sp : Sp} {t : Shared} {vs : List Value} {ns : List Int}
/-- from one abstract heap -/
theorem end_at (gd : callerA.guards = some []) (KX : K.In t.heap) (gl : t.heap.Ns mainGlobals mg) (bl : t.heap.Ns builtinsNs mb) (bb : ∀ y : Str, y ≠ "__name__" → mb y = bootBuiltins y) (nl : t.heap.NoLimit) (g0 : t.gens = #[]) (rm : Room k callerA)
    (ha : t.heap.get? a = some { cls := .type "list", data := .seq vs.toArray })
    (F : ∀ base : Heap, K.In base → base.Ns mainGlobals mg → FnG P w K mg base k fa fd [x] sp) (bd : ∀ (s : Shared) (u : Value), BindsTo s fd ⟨[u], []⟩ [(x, u)]) {H : Hp} (on : Only H) (ok : HOk P w H t.heap) (at1 : ∀ b o, H b = some o → b = a) (kn : ∀ o, H a = some o → K.lookup a = none)
    (call : sp [.ref a] H (fun v _ => v = .bl true) fun _ _ _ => False) :
    codeAny (model P w) callerA (.call (.ref fa) ⟨[.ref a], []⟩) (fun r s' => r = .ok (.ret (.bool true)) ∧ OldK t.heap s'.heap ∧ s'.os = t.os ∧ AllBare s'.gens) t := by
  have free : ∀ {b : Addr} {o : Obj}, t.heap.get? b = some o → (∀ n, o.data ≠ .seq vs.toArray n) → H b = none := fun {b o} e nd => by
    cases q : H b with
    | none => rfl
    | some u =>
      have z := at1 b u q
      subst z
      rw [ha] at e
      cases e
      exact absurd rfl (nd 0)
  have dicts : ∀ {b : Addr} {m : Str → Option Value}, t.heap.Ns b m → (hidT t.heap H).Ns b m := fun ⟨o, es, ep, e, d, r⟩ =>
    ⟨o, es, ep, hidT_get e (free e fun n z => by rw [d] at z; cases z), d, r⟩
  have kin : K.In (hidT t.heap H) := fun b o e => hidT_get (KX b o e) (by
    cases q : H b with
    | none => rfl
    | some u =>
      have z := at1 b u q
      subst z
      rw [kn u q] at e
      cases e)
  obtain ⟨mc, l1, l2⟩ := nl
  have env : Env0 P w K mg (hidT t.heap H) callerA [] t H := ⟨rfl, ⟨kin, dicts gl, ⟨mb, dicts bl, bb⟩, mc, dicts l1, l2⟩, fun b o e => of_hidT e, Nat.le_of_eq (hidT_size _ _), trivial, fun b z => absurd (show b ∈ ([] : List Addr) from z) (by simp), ok, .of_eq g0⟩
  refine codeAny_mono ((F _ kin (dicts gl)).run callerA [] t H ⟨[.ref a], []⟩ [.ref a] [.ref a] _ _ rm gd env (bd t (.ref a)) (.cons rfl .nil) call) fun r s' h => ?_
  match r, h with
  | .error e, h => exact h.elim
  | .ok .next, h => exact h.elim
  | .ok .brk, h => exact h.elim
  | .ok .cont, h => exact h.elim
  | .ok (.ret u), h =>
    obtain ⟨v, H2, eo, eg, un, ok2, rv, e1⟩ := h
    have e2 : v = .bl true := e1
    subst e2
    have e3 : u = Value.bool true := rv
    subst e3
    refine ⟨rfl, OldK.of_keep fun b o e => ?_, eo, eg⟩
    cases q : H b with
    | none => exact un.keep b o e q (fun z => absurd (show b ∈ ([] : List Addr) from z) (by simp)) (by simp)
    | some u =>
      obtain z | ⟨o1, xs, z⟩ := on b
      · rw [q] at z; cases z
      · have y1 := (ok b _ z).1
        have y2 := (ok2 b _ (un.frzs b o1 _ z)).1
        rw [e] at y1
        cases y1
        exact y2
theorem end_call (gd : callerA.guards = some []) (KX : K.In t.heap) (gl : t.heap.Ns mainGlobals mg) (bl : t.heap.Ns builtinsNs mb) (bb : ∀ y : Str, y ≠ "__name__" → mb y = bootBuiltins y) (nl : t.heap.NoLimit) (g0 : t.gens = #[]) (rm : Room k callerA)
    (ha : t.heap.get? a = some { cls := .type "list", data := .seq vs.toArray }) (hi : IntsAre vs ns) (hl : ns.length ≤ sizeLine)
    (F : ∀ base : Heap, K.In base → base.Ns mainGlobals mg → FnG P w K mg base k fa fd [x] sp) (bd : ∀ (s : Shared) (u : Value), BindsTo s fd ⟨[u], []⟩ [(x, u)])
    (call : ∀ H : Hp, SqL K H a (ns.map V.int) → sp [.ref a] H (fun v _ => v = .bl true) fun _ _ _ => False) :
    codeAny (model P w) callerA (.call (.ref fa) ⟨[.ref a], []⟩) (fun r s' => r = .ok (.ret (.bool true)) ∧ OldK t.heap s'.heap ∧ s'.os = t.os ∧ AllBare s'.gens) t := by
  have len := hi.length
  have rv := vals_ints hi
  cases lk : K.lookup a with
  | some o =>
    have e := KX a o lk
    rw [ha] at e
    cases e
    refine end_at (H := fun _ => none) gd KX gl bl bb nl g0 rm ha F bd (fun _ => .inl rfl) (fun b u z => by cases z) (fun b o z => by cases z) (fun o z => by cases z) (call _ (.inr ⟨_, vs.toArray, _, lk, rfl, rfl, rfl, by rw [List.size_toArray, len]; exact hl, by simpa using rv⟩))
  | none =>
    have self : (fun b => if b = a then some (HO.frz { cls := .type "list", data := .seq vs.toArray } (.lst (ns.map V.int))) else none : Hp) a = some (.frz { cls := .type "list", data := .seq vs.toArray } (.lst (ns.map V.int))) := if_pos rfl
    have only : ∀ b u, (fun b => if b = a then some (HO.frz { cls := .type "list", data := .seq vs.toArray } (.lst (ns.map V.int))) else none : Hp) b = some u → b = a ∧ u = .frz { cls := .type "list", data := .seq vs.toArray } (.lst (ns.map V.int)) := fun b u z => by
      by_cases hb : b = a
      · have z2 := (if_pos hb).symm.trans z
        exact ⟨hb, (Option.some.inj z2).symm⟩
      · cases (if_neg hb).symm.trans z
    refine end_at (H := fun b => if b = a then some (.frz { cls := .type "list", data := .seq vs.toArray } (.lst (ns.map V.int))) else none) gd KX gl bl bb nl g0 rm ha F bd (fun b => ?_) (fun b u z => ?_) (fun b o z => (only b o z).1) (fun o z => lk) (call _ (.inl (.inr ⟨_, self⟩)))
    · by_cases hb : b = a
      · exact .inr ⟨_, _, if_pos hb⟩
      · exact .inl (if_neg hb)
    · obtain ⟨rfl, rfl⟩ := only b u z
      exact ⟨ha, by rw [List.length_map]; exact hl, vs, _, rv, ha⟩
end
theorem end_walk {l : PySem.W.OpenLaw} {n k : Nat} {q : Program} {loose : List Str} {XP : (Str → Option Value) → Heap → Prop} {YP : World → Heap → Prop} {d : DefRec} {K : Params → PySem.W.Frag} {sp : PySem.W.Frag → Sp} {x : Str} (gd : callerA.guards = some [])
    (hn : l.most = some n) (h2 : n ≤ sizeLine) (df : d.params.defaults = []) (rm : Room k callerA) (hY : ∀ (w : World) (h : Heap), YP w h → (K w.params).In h)
    (F : ∀ (w : World) (mg : Str → Option Value) (fa : Addr) (h : Heap), (K w.params).In h → h.Ns mainGlobals mg → mg d.name = some (.ref fa) →
      ∃ fd : FuncData, (∀ (s : Shared) (u : Value), BindsTo s fd ⟨[u], []⟩ [(x, u)]) ∧ ∀ base : Heap, (K w.params).In base → base.Ns mainGlobals mg → FnG l.prog w (K w.params) mg base k fa fd [x] (sp (K w.params)))
    (call : ∀ (K : PySem.W.Frag) (H : Hp) (a : Addr) (ns : List Int), ns.length ≤ n → SqL K H a (ns.map V.int) → sp K [.ref a] H (fun v _ => v = .bl true) fun _ _ _ => False) :
    PySem.W.WalkO q loose XP YP l.row.toRowW d [] (fun f vs => PySem.call f vs) := by
  refine Att.attach_call hn df fun w s0 s1 mg mb fa o pm cd doc a vs ns G Y ho hd hcd hmg hobj hints hlen hg => ?_
  obtain ⟨fd, bd, hF⟩ := F w mg fa _ (hY w _ Y) G.T.g hmg
  exact end_call gd (hY w _ Y) G.T.g G.T.b G.T.builtins G.T.nolimit hg rm hobj hints (Nat.le_trans hlen h2) hF bd fun H hS => call _ H a ns hlen hS
end DL

namespace DL
open L2 PySem PySem.Spec PyProof.Rows
/-! ## comprehensions of two clauses, no tests -/
def cmpL2 (p : Pat) (fi1 : IM) (p1 : Pat) (vs1 : List Nat) (f : EM) (r : List SV) : List PyData → DS → Option (List PyData × DS)
  | [], w => some ([], w)
  | d :: ds, w =>
    (setP p d r).bind fun r1 => (toOpt (fi1 r1 w)).bind fun zw => (cmpL p1 tYesD f (wipeR r1 vs1) zw.1 zw.2).bind fun yw => (cmpL2 p fi1 p1 vs1 f r ds yw.2).bind fun tw => some (yw.1 ++ tw.1, tw.2)
def eComp2 (vs vs1 : List Nat) (fi : IM) (p : Pat) (fi1 : IM) (p1 : Pat) (f : EM) : EM := fun r w => (fi r w).bind fun ds w1 =>
  match cmpL2 p fi1 p1 vs1 f (wipeR r vs) ds w1 with
  | some (ys, w2) => if ys.length ≤ szL then .ok (.list ys) w2 else .bad
  | none => .bad
section
variable {mg : Str → Option Value} {K : PySem.W.Frag} {c : Cn} {P : List (V × PyData)} {ow : Nat → Option Addr} {r : List SV} {w w' : DS} {σ : L2.St} {H1 H : Hp}
/-- slots wiped within the same frame -/
theorem Rel.wiped (R : Rel mg K c P (fun _ => none) r w σ H) (vs : List Nat) : Rel mg K c P (fun _ => none) (wipeR r vs) w (wipe σ vs) H where
  ok := R.ok
  tk := R.tk
  len := by
    rw [wipeR_len]
    have : (wipe σ vs).length = σ.length := by
      clear R
      induction vs with
      | nil => rfl
      | cons v vs ih => show ((wipe σ vs).set v none).length = _; rw [List.length_set, ih]
    rw [this]
    exact R.len
  slot := fun i sv e => by
    rcases wipeR_get e with rfl | ⟨hi, s0, e0, rfl⟩
    · have hl : i < (wipeR r vs).length := (List.getElem?_eq_some_iff.mp e).1
      have hl2 : i < (wipe σ vs).length := by
        have z : (wipe σ vs).length = σ.length := by
          clear e hl R
          induction vs with
          | nil => rfl
          | cons v vs ih => show ((wipe σ vs).set v none).length = _; rw [List.length_set, ih]
        rw [z, ← R.len, ← wipeR_len (r := r) (vs := vs)]
        exact hl
      exact ⟨_, List.getElem?_eq_getElem hl2, trivial⟩
    · obtain ⟨v, ev, h⟩ := R.slot i s0 e0
      refine ⟨v, by rw [wipe_get hi]; exact ev, ?_⟩
      cases s0 with
      | own ds => exact trivial
      | un => exact h
      | val d => exact h
      | st => exact h
      | fn x => exact h
      | lam => exact h
  keep := R.keep
  own := R.own
  owi := R.owi
  st := R.st
  pin := R.pin
theorem wipe_len {σ : L2.St} : ∀ {vs : List Nat}, (wipe σ vs).length = σ.length
  | [] => rfl
  | v :: vs => by show ((wipe σ vs).set v none).length = _; rw [List.length_set, wipe_len (vs := vs)]
/-- the block's slots, when the list that is filled has grown -/
theorem Rel.rebase {D : Addr} {Ha H4 H5 : Hp} {ow2 : Nat → Option Addr} {r1 : List SV} {w5 : DS} {σ2 : L2.St} (R : Rel mg K (blkC c ow D Ha) P ow2 r1 w σ2 H4) (k : Keep (fun b => SAd c.sa b ∨ b = D) H4 H5)
    (dom : ∀ b, (Ow c.O0 ow b ∨ b = D) → ∃ o, H5 b = some o) (st : StOk c.sa w5 H5) (vs : List Nat) : Rel mg K (blkC c ow D H5) [] (fun _ => none) (wipeR r1 vs) w5 (wipe σ2 vs) H5 where
  ok := ⟨fun b hb => R.ok.sub b hb, dom⟩
  len := by rw [wipeR_len, wipe_len]; exact R.len
  slot := fun i sv e => by
    have hl : i < (wipeR r1 vs).length := (List.getElem?_eq_some_iff.mp e).1
    rcases wipeR_get e with rfl | ⟨hi, s0, e0, rfl⟩
    · have hl2 : i < (wipe σ2 vs).length := by rw [wipe_len, ← R.len, ← wipeR_len (r := r1) (vs := vs)]; exact hl
      exact ⟨_, List.getElem?_eq_getElem hl2, trivial⟩
    · obtain ⟨v, ev, h⟩ := R.slot i s0 e0
      refine ⟨v, by rw [wipe_get hi]; exact ev, ?_⟩
      cases s0 with
      | own ds => exact trivial
      | un => exact trivial
      | val d =>
        obtain ⟨x, ex, hd⟩ := h
        refine ⟨x, ex, (hd.keep k fun b hb => ?_).weak fun b hb => ?_⟩
        · exact hb.elim (fun z => .inl (R.ok.sub b z)) fun z => .inl (.inr z)
        · exact hb.elim .inl fun ⟨_, z⟩ => by cases z
      | st => exact h
      | fn x => exact h
      | lam => exact h
  keep := .refl
  own := fun i a e => by cases e
  owi := fun i j a e => by cases e
  st := st
  pin := fun p hp => by cases hp
  tk := R.tk
end
section
variable {C : Dc} {σ : L2.St} {H : Hp} {Q : VK}
theorem red_comp2 {vs vs1 : List Nat} {fi fi1 : IM} {p p1 : Pat} {f : EM} (hp : ∀ i ∈ slotsP p, i ∈ vs) (hp1 : ∀ i ∈ slotsP p1, i ∈ vs1) (h : tD C (eComp2 vs vs1 fi p fi1 p1 f) σ H Q) :
    tLc2 (tI C fi) (fun v σ H Q => ∃ c, tP ⟨C.mg, C.K, c, WF⟩ p v σ H Q) tYes (fun σ H R => ∃ c, tI ⟨C.mg, C.K, c, WF⟩ fi1 σ H R) (fun v σ H Q => ∃ c, tP ⟨C.mg, C.K, c, WF⟩ p1 v σ H Q) tYes (fun σ H Q => ∃ c, tD ⟨C.mg, C.K, c, WF⟩ f σ H Q) vs vs1 σ H Q := by
  obtain ⟨P, ow, r, w, R, h⟩ := h
  refine ⟨P, ow, r, w, R, gE.bind h fun ds w1 jp H1 _ k1 R1 pj h1 => ?_⟩
  intro D hD
  obtain ⟨hpin, wk⟩ := pj
  obtain ⟨tot, wF, etot, hlen, h2⟩ : ∃ tot wF, cmpL2 p fi1 p1 vs1 f (wipeR r vs) ds w1 = some (tot, wF) ∧ tot.length ≤ szL ∧ gE C (fD C) (.ok (.list tot) wF) P ow r σ H1 Q := by
    cases e : cmpL2 p fi1 p1 vs1 f (wipeR r vs) ds w1 with
    | none => rw [e] at h1; exact h1.elim
    | some z =>
      obtain ⟨tot, wF⟩ := z
      rw [e] at h1
      have h3 : gE C (fD C) (if tot.length ≤ szL then .ok (.list tot) wF else .bad) P ow r σ H1 Q := h1
      by_cases hl : tot.length ≤ szL
      · rw [if_pos hl] at h3; exact ⟨tot, wF, rfl, hl, h3⟩
      · rw [if_neg hl] at h3; exact h3.elim
  have nsa : ¬ SAd C.c.sa D := fun z => R1.fresh hD (R1.subO D z)
  refine ⟨fun i m H => m = ds.length - i ∧ i ≤ ds.length ∧ ∃ ys w' rest, CompAt C ow D H1 H ys w' ∧ cmpL2 p fi1 p1 vs1 f (wipeR r vs) (ds.drop i) w' = some (rest, wF) ∧ tot = ys ++ rest,
    ⟨ds.length, by simp, Nat.zero_le _, [], w1, tot, ⟨⟨[], upd_same, .nil⟩, .new hD, R1.st.keep (M := fun _ => False) (.new hD) fun _ _ z => z⟩, by rw [List.drop_zero]; exact etot, rfl⟩, ?_⟩
  rintro i m H ⟨rfl, hile, ys, w', rest, a, erest, etot2⟩
  have domH : ∀ {H : Hp} {ys : List PyData} {w : DS}, CompAt C ow D H1 H ys w → ∀ b, (Ow C.c.O0 ow b ∨ b = D) → ∃ o, H b = some o := fun {H ys w} a b hb => by
    rcases hb with hb | hb
    · exact (R1.after a.keep a.st).dom' b hb
    · rw [hb]; exact let ⟨xs, hx, _⟩ := a.acc; ⟨_, hx⟩
  have pinH : Pinned C.K H (fun b => Ow C.c.O0 ow b ∨ b = D) jp.2 := fun q hq => ((hpin q hq).grow hD).keep a.keep fun b hb => .inl (R1.subO b hb)
  by_cases hi : i < ds.length
  · refine .inr ⟨wk.goes i H hi ⟨_, pinH⟩, fun H => ∃ ys w' rest, CompAt C ow D H1 H ys w' ∧ cmpL2 p fi1 p1 vs1 f (wipeR r vs) (ds.drop (i + 1)) w' = some (rest, wF) ∧ tot = ys ++ rest, fun H' hN => ⟨ds.length - (i + 1), by omega, rfl, hi, hN⟩, fun x H' y => ?_⟩
    obtain ⟨sm, d, ed, pd⟩ := wk.yields i H x H' hi ⟨_, pinH⟩ y _ (domH a) pinH
    have ecs : ds.drop i = d :: ds.drop (i + 1) := by
      rw [← List.getElem_cons_drop hi]
      have : ds[i] = d := by
        rw [List.getElem?_eq_getElem hi] at ed
        exact Option.some.inj ed
      rw [this]
    rw [ecs] at erest
    have er0 : ((setP p d (wipeR r vs)).bind fun r1 => (toOpt (fi1 r1 w')).bind fun zw => (cmpL p1 tYesD f (wipeR r1 vs1) zw.1 zw.2).bind fun yw => (cmpL2 p fi1 p1 vs1 f (wipeR r vs) (ds.drop (i + 1)) yw.2).bind fun tw => some (yw.1 ++ tw.1, tw.2)) = some (rest, wF) := erest
    have a' : CompAt C ow D H1 H' ys w' := by
      obtain ⟨xs, hx, hd⟩ := a.acc
      exact ⟨⟨xs, sm _ _ hx, hd.keep (Keep.of_same (M := fun _ => False) sm) fun _ z => z.elim⟩, a.keep.trans (.of_same sm), a.st.keep (M := fun _ => False) (.of_same sm) fun _ _ z => z⟩
    have hDd' : ∃ o, H' D = some o := let ⟨xs, hx, _⟩ := a'.acc; ⟨_, hx⟩
    have Rb := R1.blk hD a'.keep hDd' a'.st vs rfl
    cases e1 : setP p d (wipeR r vs) with
    | none => rw [e1] at er0; cases er0
    | some r1 =>
      rw [e1] at er0
      refine ⟨blkC C.c ow D H', [], _, _, w', d, r1, Rb, pd.weak (fun b hb => by
        rcases hb with hb | ⟨_, hb⟩
        · exact hb
        · cases hb), e1, fun σ2 ow2 R2 sa sub => ⟨wipe_same sa hp, ?_⟩⟩
      unfold tYes
      dsimp only
      rw [if_pos rfl]
      have er1 : ((toOpt (fi1 r1 w')).bind fun zw => (cmpL p1 tYesD f (wipeR r1 vs1) zw.1 zw.2).bind fun yw => (cmpL2 p fi1 p1 vs1 f (wipeR r vs) (ds.drop (i + 1)) yw.2).bind fun tw => some (yw.1 ++ tw.1, tw.2)) = some (rest, wF) := er0
      cases e2 : toOpt (fi1 r1 w') with
      | none => rw [e2] at er1; cases er1
      | some zw =>
        obtain ⟨ds1, w2⟩ := zw
        rw [e2] at er1
        have er2 : ((cmpL p1 tYesD f (wipeR r1 vs1) ds1 w2).bind fun yw => (cmpL2 p fi1 p1 vs1 f (wipeR r vs) (ds.drop (i + 1)) yw.2).bind fun tw => some (yw.1 ++ tw.1, tw.2)) = some (rest, wF) := er1
        refine ⟨blkC C.c ow D H', [], ow2, r1, w', R2, ?_⟩
        rw [toOpt_some e2]
        intro jp1 H4 k4 R4 p4
        obtain ⟨hpin4, wk1⟩ := p4
        cases e3 : cmpL p1 tYesD f (wipeR r1 vs1) ds1 w2 with
        | none => rw [e3] at er2; cases er2
        | some yw =>
          obtain ⟨tot1, w5⟩ := yw
          rw [e3] at er2
          have er3 : ((cmpL2 p fi1 p1 vs1 f (wipeR r vs) (ds.drop (i + 1)) w5).bind fun tw => some (tot1 ++ tw.1, tw.2)) = some (rest, wF) := er2
          cases e4 : cmpL2 p fi1 p1 vs1 f (wipeR r vs) (ds.drop (i + 1)) w5 with
          | none => rw [e4] at er3; cases er3
          | some tw =>
            obtain ⟨rest2, wE⟩ := tw
            rw [e4] at er3
            have er4 : some (tot1 ++ rest2, wE) = some (rest, wF) := er3
            cases er4
            have a4 : CompAt C ow D H1 H4 ys w2 := by
              obtain ⟨xs, hx, hd⟩ := a'.acc
              exact ⟨⟨xs, k4.same _ _ hx nsa, hd.keep k4 fun b hb => .inl (R1.subO b hb)⟩, a'.keep.trans k4, R4.st⟩
            refine ⟨fun j k H => k = ds1.length - j ∧ j ≤ ds1.length ∧ Keep (fun b => SAd C.c.sa b ∨ b = D) H4 H ∧ ∃ zs w3 rest1, CompAt C ow D H1 H (ys ++ zs) w3 ∧ cmpL p1 tYesD f (wipeR r1 vs1) (ds1.drop j) w3 = some (rest1, w5) ∧ tot1 = zs ++ rest1,
              ⟨ds1.length, by simp, Nat.zero_le _, .refl, [], w2, tot1, by rw [List.append_nil]; exact a4, by rw [List.drop_zero]; exact e3, rfl⟩, ?_⟩
            rintro j k H5 ⟨rfl, hj, k5, zs, w3, rest1, a5, e5, et5⟩
            have pin5 : Pinned C.K H5 (fun b => Ow C.c.O0 ow b ∨ b = D) jp1.2 := fun q hq => ((hpin4 q hq).keep k5 fun b hb => hb.elim (fun z => .inl (R2.ok.sub b z)) fun z => .inl (.inr z)).weak fun b hb => .inl hb
            by_cases hj2 : j < ds1.length
            · refine .inr ⟨wk1.goes j H5 hj2 ⟨_, pin5⟩, fun H => Keep (fun b => SAd C.c.sa b ∨ b = D) H4 H ∧ ∃ zs w3 rest1, CompAt C ow D H1 H (ys ++ zs) w3 ∧ cmpL p1 tYesD f (wipeR r1 vs1) (ds1.drop (j + 1)) w3 = some (rest1, w5) ∧ tot1 = zs ++ rest1, fun H' hN => ⟨ds1.length - (j + 1), by omega, rfl, hj2, hN⟩, fun x1 H6 y1 => ?_⟩
              obtain ⟨sm6, d1, ed1, pd1⟩ := wk1.yields j H5 x1 H6 hj2 ⟨_, pin5⟩ y1 _ (domH a5) pin5
              have ec1 : ds1.drop j = d1 :: ds1.drop (j + 1) := by
                rw [← List.getElem_cons_drop hj2]
                have : ds1[j] = d1 := by
                  rw [List.getElem?_eq_getElem hj2] at ed1
                  exact Option.some.inj ed1
                rw [this]
              rw [ec1] at e5
              have a6 : CompAt C ow D H1 H6 (ys ++ zs) w3 := by
                obtain ⟨xs, hx, hd⟩ := a5.acc
                exact ⟨⟨xs, sm6 _ _ hx, hd.keep (Keep.of_same (M := fun _ => False) sm6) fun _ z => z.elim⟩, a5.keep.trans (.of_same sm6), a5.st.keep (M := fun _ => False) (.of_same sm6) fun _ _ z => z⟩
              have k6 : Keep (fun b => SAd C.c.sa b ∨ b = D) H4 H6 := k5.trans (.of_same sm6)
              have Rb6 := Rel.rebase (H5 := H6) (w5 := w3) R4 k6 (domH a6) a6.st vs1
              unfold cmpL at e5
              cases e6 : setP p1 d1 (wipeR r1 vs1) with
              | none => rw [e6] at e5; cases e5
              | some r2 =>
                rw [e6] at e5
                have e7 : ((toOpt (f r2 w3)).bind fun yw => (cmpL p1 tYesD f (wipeR r1 vs1) (ds1.drop (j + 1)) yw.2).bind fun zw => some (yw.1 :: zw.1, zw.2)) = some (rest1, w5) := e5
                refine ⟨blkC C.c ow D H6, [], _, _, w3, d1, r2, Rb6, pd1.weak (fun b hb => by
                  rcases hb with hb | ⟨_, hb⟩
                  · exact hb
                  · cases hb), e6, fun σ3 ow3 R7 sa1 sub1 => ⟨wipe_same sa1 hp1, ?_⟩⟩
                dsimp only
                rw [if_pos rfl]
                cases e8 : toOpt (f r2 w3) with
                | none => rw [e8] at e7; cases e7
                | some vw =>
                  obtain ⟨z, w8⟩ := vw
                  rw [e8] at e7
                  have e9 : ((cmpL p1 tYesD f (wipeR r1 vs1) (ds1.drop (j + 1)) w8).bind fun zw => some (z :: zw.1, zw.2)) = some (rest1, w5) := e7
                  cases e10 : cmpL p1 tYesD f (wipeR r1 vs1) (ds1.drop (j + 1)) w8 with
                  | none => rw [e10] at e9; cases e9
                  | some zz =>
                    obtain ⟨rest3, wE3⟩ := zz
                    rw [e10] at e9
                    have e11 : some (z :: rest3, wE3) = some (rest1, w5) := e9
                    cases e11
                    refine ⟨blkC C.c ow D H6, [], ow3, r2, w3, R7, ?_⟩
                    rw [toOpt_some e8]
                    intro v H8 k8 R8 pv
                    have hyl : (ys ++ zs).length < sizeLine := by
                      have q : tot.length ≤ szL := hlen
                      rw [etot2, et5] at q
                      rw [List.length_append, List.length_append, List.length_append, List.length_cons] at q
                      rw [List.length_append]
                      exact Nat.lt_of_lt_of_le (by omega) szL_le
                    obtain ⟨xs, hx, hl, a9⟩ := a6.push R1 hD k8 R8.st (pv.weak fun b hb => .inl hb) hyl
                    have kD : Keep (fun b => SAd C.c.sa b ∨ b = D) H8 (upd H8 D (.lst (xs ++ [v]))) := ⟨fun b o q n => by rw [upd_ne fun z => n (.inr z)]; exact q, fun b zs q => by
                      have n : b ≠ D := fun z => by rw [z, hx] at q; cases q
                      rw [upd_ne n]; exact q, fun b o u q => by
                      have n : b ≠ D := fun z => by rw [z, hx] at q; cases q
                      rw [upd_ne n]; exact q, fun b u q => by
                      have n : b ≠ D := fun z => by rw [z, hx] at q; cases q
                      rw [upd_ne n]; exact q⟩
                    exact ⟨xs, hx, hl, (k6.trans (k8.mono fun b z => .inl z)).trans kD, zs ++ [z], w8, rest3, by rw [← List.append_assoc]; exact a9, e10, by rw [et5, List.append_assoc]; rfl⟩
            · have ej : j = ds1.length := by omega
              subst ej
              rw [List.drop_length] at e5
              unfold cmpL at e5
              cases e5
              rw [List.append_nil] at et5
              subst et5
              exact .inl ⟨wk1.stops H5 ⟨_, pin5⟩, ys ++ tot1, _, rest2, a5, e4, by rw [etot2, List.append_assoc]⟩
  · have ei : i = ds.length := by omega
    subst ei
    rw [List.drop_length] at erest
    unfold cmpL2 at erest
    cases erest
    rw [List.append_nil] at etot2
    subst etot2
    obtain ⟨xs, hx, hd⟩ := a.acc
    exact .inl ⟨wk.stops H ⟨_, pinH⟩, h2 (.ref D) H a.keep (R1.after a.keep a.st) (.lst hx (R1.fresh hD) (hd.weak fun b hb => .inl hb))⟩
end
theorem pi_ex {X : Cx} {α : Type} {tg e : Expr} {t : α → TI} (h : ∀ a, PI X tg e (t a)) : PI X tg e (fun σ H R => ∃ a, t a σ H R) := ⟨fun pins s σ H R I ⟨a, q⟩ => (h a).run pins s σ H R I q⟩
section
variable {X : Cx} {c : Cn} {W : XW} {pos : Pos}
theorem dComp2 {elt tg iter tg1 iter1 : Expr} {scope : Scope} {own : List (Str × Nat)} {vs1 : List Nat} {fi fi1 : IM} {p p1 : Pat} {f : EM} (hc : X.calm = true) (hN : X.N.Nodup) (ok : BlkOk X.N X.env.scope scope own) (hv : ∀ i ∈ vs1, i ∈ own.map (·.2)) (hi : PI X tg iter (tI (dc X c W) fi)) (hp : ∀ i ∈ slotsP p, i ∈ own.map (·.2)) (hp1 : ∀ i ∈ slotsP p1, i ∈ vs1)
    (hg : ∀ (s : Shared) (H : Hp) (C : Addr) (cl : List (Str × Addr)) (fp : List Addr) (c : Cn), PG (X.blk s H scope (compEnvC scope cl C X.env) fp) tg (tP (dc (X.blk s H scope (compEnvC scope cl C X.env) fp) c WF) p))
    (hi1 : ∀ (s : Shared) (H : Hp) (C : Addr) (cl : List (Str × Addr)) (fp : List Addr) (c : Cn), PI (X.blk s H scope (compEnvC scope cl C X.env) fp) tg1 iter1 (tI (dc (X.blk s H scope (compEnvC scope cl C X.env) fp) c WF) fi1))
    (hg1 : ∀ (s : Shared) (H : Hp) (C : Addr) (cl : List (Str × Addr)) (fp : List Addr) (c : Cn), PG (X.blk s H scope (compEnvC scope cl C X.env) fp) tg1 (tP (dc (X.blk s H scope (compEnvC scope cl C X.env) fp) c WF) p1))
    (he : ∀ (s : Shared) (H : Hp) (C : Addr) (cl : List (Str × Addr)) (fp : List Addr) (c : Cn), PE (X.blk s H scope (compEnvC scope cl C X.env) fp) elt (tD (dc (X.blk s H scope (compEnvC scope cl C X.env) fp) c WF) f))
    (hs : ∀ x, foldedSetIterable iter X.env x = pure x := by intro _; rfl) (hs1 : ∀ (env : Env) (x : Value), foldedSetIterable iter1 env x = pure x := by intro _ _; rfl) :
    PE X (.ListComp elt [⟨tg, iter, [], 0⟩, ⟨tg1, iter1, [], 0⟩] scope pos) (tD (dc X c W) (eComp2 (own.map (·.2)) vs1 fi p fi1 p1 f)) :=
  PE.imp (pe_lc2 hc hN hi ok hv (fun s H C cl fp => pg_ex (hg s H C cl fp)) (fun s H C cl fp => pts_nil) (fun s H C cl fp => pi_ex (hi1 s H C cl fp)) (fun s H C cl fp => pg_ex (hg1 s H C cl fp)) (fun s H C cl fp => pts_nil) (fun s H C cl fp => pe_ex (he s H C cl fp)) hs hs1) fun _ _ _ => red_comp2 hp hp1
end
/-! ## x in xs, ints -/
def inD : PyData → PyData → Option PyData
  | .int a, .list ds => (toInts ds).map fun ns => .bool (decide (a ∈ ns))
  | .int a, .tuple ds => (toInts ds).map fun ns => .bool (decide (a ∈ ns))
  | _, _ => none
def notInD : PyData → PyData → Option PyData
  | .int a, .list ds => (toInts ds).map fun ns => .bool (!decide (a ∈ ns))
  | .int a, .tuple ds => (toInts ds).map fun ns => .bool (!decide (a ∈ ns))
  | _, _ => none
theorem inV_ints (a : Int) : ∀ ns : List Int, inV (.int a) (ns.map V.int) = decide (a ∈ ns)
  | [] => rfl
  | n :: r => by
    have ih := inV_ints a r
    unfold inV at ih ⊢
    rw [List.map_cons, List.any_cons, ih, Bool.eq_iff_iff]
    simp only [eqV, Bool.or_eq_true, beq_iff_eq, decide_eq_true_eq, List.mem_cons]
    exact ⟨fun h => h.elim (fun e => .inl e.symm) .inr, fun h => h.elim (fun e => .inl e.symm) .inr⟩
theorem flat_ints : ∀ ns : List Int, (ns.map V.int).all flatV = true
  | [] => rfl
  | n :: r => by rw [List.map_cons, List.all_cons, flat_ints r]; rfl
section
variable {X : Cx}
theorem in_seq {g : PyData → PyData → Option PyData} {neg : Bool} {f : Value → Value → Sem Value} (ho : OpR X f (rIn X.K neg)) (hg : ∀ d e z, g d e = some z → ∃ a ds ns, d = .int a ∧ (e = .list ds ∨ e = .tuple ds) ∧ toInts ds = some ns ∧ z = .bool (if neg then !decide (a ∈ ns) else decide (a ∈ ns))) : OpR X f (rD2 X.K g) := by
  refine two_ints ho fun x y H Q d e z O dom hd he hz q => ?_
  obtain ⟨a, ds, ns, rfl, hds, ht, rfl⟩ := hg d e z hz
  cases hd
  rcases hds with rfl | rfl
  · cases he with
    | lst r n al =>
      have ex := toInts_do al ht
      subst ex
      refine ⟨_, _, rfl, .inl (SqL.of r), rfl, flat_ints ns, ?_⟩
      rw [inV_ints]
      exact q _ _ (Same.refl _) (.bl _)
  · cases he with
    | tup r _ al =>
      have ex := toInts_do al ht
      subst ex
      refine ⟨_, _, rfl, .inr r, rfl, flat_ints ns, ?_⟩
      rw [inV_ints]
      exact q _ _ (Same.refl _) (.bl _)
theorem o_in : OpR X (compareOp .In) (rD2 X.K inD) := in_seq (neg := false) op_in_seq fun d e z h => by
  cases d with
  | int a =>
    cases e with
    | list ds =>
      cases ht : toInts ds with
      | none => simp [inD, ht] at h
      | some ns => simp [inD, ht] at h; exact ⟨a, ds, ns, rfl, .inl rfl, ht, by rw [← h]; rfl⟩
    | tuple ds =>
      cases ht : toInts ds with
      | none => simp [inD, ht] at h
      | some ns => simp [inD, ht] at h; exact ⟨a, ds, ns, rfl, .inr rfl, ht, by rw [← h]; rfl⟩
    | _ => cases h
  | _ => cases h
theorem o_notIn : OpR X (compareOp .NotIn) (rD2 X.K notInD) := in_seq (neg := true) op_notIn_seq fun d e z h => by
  cases d with
  | int a =>
    cases e with
    | list ds =>
      cases ht : toInts ds with
      | none => simp [notInD, ht] at h
      | some ns => simp [notInD, ht] at h; exact ⟨a, ds, ns, rfl, .inl rfl, ht, by rw [← h]; rfl⟩
    | tuple ds =>
      cases ht : toInts ds with
      | none => simp [notInD, ht] at h
      | some ns => simp [notInD, ht] at h; exact ⟨a, ds, ns, rfl, .inr rfl, ht, by rw [← h]; rfl⟩
    | _ => cases h
  | _ => cases h
end
end DL

namespace DL
open L2 PySem PySem.Spec PyProof.Rows
/-! ## len(set(t)) of a tuple of ints -/
def lenSetD : PyData → Option PyData
  | .tuple ds => (toInts ds).bind fun ns => if ns.length < 1000 then some (.int ((uniq ns).length : Nat)) else none
  | _ => none
section
variable {C : Dc} {σ : L2.St} {H : Hp} {Q : VK}
theorem red_lenSet {w0 : World} {fa : EM} (h : tD C (eUn lenSetD fa) σ H Q) : tCB (rLenS w0) (tCons (tCB (rSetI C.K w0) (tCons (tD C fa) tNil)) tNil) σ H Q := by
  obtain ⟨P, ow, r, w, R, h⟩ := h
  refine ⟨P, ow, r, w, R, gE.bind h fun d w1 u H1 _ k1 R1 p1 h1 => ?_⟩
  cases e1 : lenSetD d with
  | none => rw [e1] at h1; exact h1.elim
  | some z =>
    rw [e1] at h1
    cases d with
    | tuple ds =>
      have e2 : ((toInts ds).bind fun ns => if ns.length < 1000 then some (PyData.int ((uniq ns).length : Nat)) else none) = some z := e1
      cases t1 : toInts ds with
      | none => rw [t1] at e2; cases e2
      | some ns =>
        rw [t1] at e2
        have e3 : (if ns.length < 1000 then some (PyData.int ((uniq ns).length : Nat)) else none) = some z := e2
        by_cases hc : ns.length < 1000
        · rw [if_pos hc] at e3
          cases e3
          obtain ⟨la, rfl, q1⟩ := ref_tup p1 t1
          refine ⟨la, ns, rfl, q1, hc, fun p k hp hk hcn => ?_⟩
          have ek : k = (uniq ns).length := hcn _ (uniq_nodup ns) fun j => by rw [decide_eq_true_iff, uniq_mem]
          subst ek
          have st := step_same R1 (same_new (o := SetO w0 p (fun j => decide (j ∈ ns)) (uniq ns).length) hp)
          exact ⟨p, _, _, rfl, upd_same, by omega, h1.ret st.1 st.2 (.int _)⟩
        · rw [if_neg hc] at e3; cases e3
    | _ => cases e1
end
section
variable {X : Cx} {c : Cn} {W : XW} {a : Expr} {fa : EM} {pos p1 p2 p3 : Pos}
theorem dLenSet {xl xs : Str} (hc : X.calm = true) (hg : Gl X xl) (hm : X.mg xl = none) (hb : bootBuiltins xl = some (.builtin "len")) (hn : xl ≠ "__name__") (hdb : (xl == ("__debug__" : Str)) = false) (hg2 : Gl X xs) (hm2 : X.mg xs = none) (hb2 : bootBuiltins xs = some (.type "set")) (hn2 : xs ≠ "__name__") (hdb2 : (xs == ("__debug__" : Str)) = false)
    (ha : PE X a (tD (dc X c W) fa)) (sa : starEach [a] X.env = (false, eval a X.env) :: starEach [] X.env := by rfl) (se : starEach [.Call (.Name xs p2) [a] [] p3] X.env = (false, eval (.Call (.Name xs p2) [a] [] p3) X.env) :: starEach [] X.env := by rfl)
    (l1 : (backTo p3 (starEach [] X.env)).any (·.1) = false := by rfl) (l2 : (backTo pos (starEach [] X.env)).any (·.1) = false := by rfl) :
    PE X (.Call (.Name xl p1) [.Call (.Name xs p2) [a] [] p3] [] pos) (tD (dc X c W) (eUn lenSetD fa)) :=
  PE.imp (pe_callB c_lenS hg hm hb (pa_cons (pe_callTy (c_setI hc) hg2 hm2 hb2 (pa_cons ha pa_nil sa) hn2 hdb2 sa l1) pa_nil se) hn hdb se l2) fun _ _ _ => red_lenSet
end
end DL

namespace DL
open L2 PySem PySem.Spec PyProof.Rows
/-! ## while, of so many turns at most -/
def whileL (t : TM) (body : SM) : Nat → SM
  | 0, _, _ => .bad
  | n + 1, r, w => (t r w).bindS fun b w1 =>
    if b = true then
      match body r w1 with
      | .nx r2 w2 => whileL t body n r2 w2
      | .ct r2 w2 => whileL t body n r2 w2
      | .bk r2 w2 => .nx r2 w2
      | .rt d w2 => .rt d w2
      | .ex m x w2 => .ex m x w2
      | .bad => .bad
    else .nx r w1
section
variable {C : Dc} {D : Ends} {σ : L2.St} {H : Hp}
theorem red_while {t : TM} {body : SM} {n : Nat} (h : tS C (whileL t body n) D σ H) : tWhile (tT C t) (tS C body) D σ H := by
  obtain ⟨P, ow, r, w, R, h⟩ := h
  refine ⟨fun m σ H => ∃ ow r w, C.Rl P ow r w σ H ∧ gS C (whileL t body m r w) P D, ⟨n, ow, r, w, R, h⟩, fun m σ H hw => ?_⟩
  obtain ⟨ow, r, w, R, g⟩ := hw
  cases m with
  | zero => exact g.elim
  | succ m =>
    refine ⟨P, ow, r, w, R, gE.bindS g fun b w1 b' H1 _ k1 R1 p1 h1 => ?_⟩
    have e : b = b' := p1
    subst e
    cases b with
    | false => exact h1 _ _ _ R1
    | true =>
      rw [if_pos rfl]
      refine ⟨fun σ2 H2 => ∃ ow2 r2 w2, C.Rl P ow2 r2 w2 σ2 H2 ∧ gS C (whileL t body m r2 w2) P D, fun σ2 H2 hN => ⟨m, Nat.lt_succ_self m, hN⟩, P, ow, r, w1, R1, ?_⟩
      have h2 : gS C (match body r w1 with
        | .nx r2 w2 => whileL t body m r2 w2
        | .ct r2 w2 => whileL t body m r2 w2
        | .bk r2 w2 => .nx r2 w2
        | .rt d w2 => .rt d w2
        | .ex n x w2 => .ex n x w2
        | .bad => .bad) P D := h1
      cases eb : body r w1 with
      | nx r2 w2 => rw [eb] at h2; exact fun ow3 σ3 H3 R3 => ⟨ow3, r2, w2, R3, h2⟩
      | ct r2 w2 => rw [eb] at h2; exact fun ow3 σ3 H3 R3 => ⟨ow3, r2, w2, R3, h2⟩
      | bk r2 w2 => rw [eb] at h2; exact h2
      | rt d w2 => rw [eb] at h2; exact h2
      | ex n x w2 => rw [eb] at h2; exact h2
      | bad => rw [eb] at h2; exact h2
/-- path, thing = left.pop() -/
theorem red_asgPop {p : Pat} {i : Nat} (h : tS C (sAsgPop p i) D σ H) : tAsg (tBM0 C.K "list" rPop (tVar i)) (tP C p) D σ H := by
  obtain ⟨P, ow, r, w, R, h⟩ := h
  unfold sAsgPop at h
  cases ei : r[i]? with
  | none => rw [ei] at h; exact h.elim
  | some sv =>
    rw [ei] at h
    cases sv with
    | own ds =>
      obtain ⟨v, e3, a, xs, ea, ev, hx, hds⟩ := R.slot i _ ei
      subst ev
      have h2 : gS C (match popD ds with
        | some (y, ds') => (match setP p y (r.set i (.own ds')) with
          | some r1 => .nx r1 w
          | none => .bad)
        | none => .bad) P D := h
      cases hp : popD ds with
      | none => rw [hp] at h2; exact h2.elim
      | some z =>
        obtain ⟨y, ds'⟩ := z
        rw [hp] at h2
        have h3 : gS C (match setP p y (r.set i (.own ds')) with
          | some r1 => .nx r1 w
          | none => .bad) P D := h2
        cases hs : setP p y (r.set i (.own ds')) with
        | none => rw [hs] at h3; exact h3.elim
        | some r1 =>
          rw [hs] at h3
          unfold popD at hp
          cases hm : ds[ds.length - 1]? with
          | none => rw [hm] at hp; cases hp
          | some y0 =>
            rw [hm] at hp
            cases hp
            obtain ⟨x, ex, px⟩ := hds.get hm
            have hlen := hds.length
            have hd' : DoAll C.K H (Ow C.c.O0 ow) xs.dropLast ds.dropLast := by
              rw [List.dropLast_eq_take, List.dropLast_eq_take, hlen]
              exact hds.take _
            have R2 := R.turn ei ea hd'
            have px2 : Do C.K (upd H a (.lst xs.dropLast)) (Ow C.c.O0 ow) x y := by
              have kp : Keep (fun b => b = a) H (upd H a (.lst xs.dropLast)) := ⟨fun b o q n => by rw [upd_ne n]; exact q, fun b zs q => by
                rw [upd_ne (fun z => by rw [z, hx] at q; cases q)]; exact q, fun b o u q => by
                rw [upd_ne (fun z => by rw [z, hx] at q; cases q)]; exact q, fun b u q => by
                rw [upd_ne (fun z => by rw [z, hx] at q; cases q)]; exact q⟩
              exact px.keep kp fun b hb => .inr ⟨i, by rw [hb]; exact ea⟩
            exact ⟨.ref a, e3, .inl ⟨rfl, _, SqL.of hx⟩, a, xs, x, rfl, rfl, hx, by rw [hlen]; exact ex, P, ow, _, w, y, r1, R2, px2, hs, fun σ' ow' R' _ _ => h3 _ _ _ R'⟩
    | un => exact h.elim
    | val _ => exact h.elim
    | st => exact h.elim
    | fn _ => exact h.elim
    | lam => exact h.elim
/-- an own list's truth -/
def tyOwn (i : Nat) : TM := fun r w =>
  match r[i]? with
  | some (.own ds) => .ok (!ds.isEmpty) w
  | _ => .bad
def tTru (K : PySem.W.Frag) (t : TE) : TT := fun σ H Q => t σ H fun x H1 => ∃ k, TruV K x H1 k ∧ Q k H1
theorem red_tyOwn {i : Nat} {Q : Bool → Hp → Prop} (h : tT C (tyOwn i) σ H Q) : tTru C.K (tVar i) σ H Q := by
  obtain ⟨P, ow, r, w, R, h⟩ := h
  unfold tyOwn at h
  cases ei : r[i]? with
  | none => rw [ei] at h; exact h.elim
  | some sv =>
    rw [ei] at h
    cases sv with
    | own ds =>
      obtain ⟨v, e3, a, xs, ea, ev, hx, hds⟩ := R.slot i _ ei
      subst ev
      refine ⟨.ref a, e3, !ds.isEmpty, .inl ⟨xs, SqL.of hx, ?_⟩, h _ H .refl R rfl⟩
      have := hds.length
      cases xs <;> cases ds <;> first | rfl | simp at this
    | un => exact h.elim
    | val _ => exact h.elim
    | st => exact h.elim
    | fn _ => exact h.elim
    | lam => exact h.elim
/-- i += e, an int -/
def sAugI (i : Nat) (f : EM) : SM := fun r w =>
  match r[i]? with
  | some (.val (.int a)) => (f r w).bindS fun d w1 => (match d with
    | .int b => .nx (r.set i (.val (.int (a + b)))) w1
    | _ => .bad)
  | _ => .bad
theorem red_augI {i : Nat} {f : EM} (h : tS C (sAugI i f) D σ H) : tAug i (tD C f) (ipI fun a b => a + b) D σ H := by
  obtain ⟨P, ow, r, w, R, h⟩ := h
  unfold sAugI at h
  cases ei : r[i]? with
  | none => rw [ei] at h; exact h.elim
  | some sv =>
    rw [ei] at h
    cases sv with
    | val d =>
      cases d with
      | int a =>
        obtain ⟨v, e3, x, ev, px⟩ := R.slot i _ ei
        subst ev
        cases px
        refine ⟨.int a, e3, P, ow, r, w, R, gE.bindS h fun d w1 y H1 _ k1 R1 p1 h1 => ?_⟩
        cases d with
        | int b =>
          cases p1
          exact ⟨a, b, rfl, rfl, h1 _ _ _ (R1.setVal i (.int (a + b)))⟩
        | none => exact h1.elim
        | bool _ => exact h1.elim
        | str _ => exact h1.elim
        | list _ => exact h1.elim
        | tuple _ => exact h1.elim
        | dict _ => exact h1.elim
      | none => exact h.elim
      | bool _ => exact h.elim
      | str _ => exact h.elim
      | list _ => exact h.elim
      | tuple _ => exact h.elim
      | dict _ => exact h.elim
    | un => exact h.elim
    | own _ => exact h.elim
    | st => exact h.elim
    | fn _ => exact h.elim
    | lam => exact h.elim
/-- a call of a local name that holds a def: which one is asked of S -/
def eFnS (S : Str → Option FM) (i : Nat) (f : AM) : EM := fun r w =>
  match r[i]? with
  | some (.fn x) => (match S x with
    | some G => eFn G f r w
    | none => .bad)
  | _ => .bad
end

section
variable {X : Cx} {c : Cn} {W : XW} {pos p : Pos} {y : Str} {e : Expr} {es : List Expr} {k i : Nat} {n : Nat} {fa : AM} {ps : List Str} {f : Addr} {fd : FuncData} {sp : Sp} {t : TA}
theorem pe_callGL (F : FnG X.prog X.w X.K X.mg X.base k f fd ps sp) (hr : Room k X.A) (hgd : X.A.guards = some []) (hN : X.N[i]? = some y) (hv : Vis X.env.scope y) (hk : PySem.W.keepIn X.K (.ref f) = true) (hb : Binds X.K fd ps [])
    (ha : PA X (e :: es) t) (hdb : (y == ("__debug__" : Str)) = false := by decide) (hcd : (y == ("__classdict__" : Str)) = false := by decide) (he : starEach (e :: es) X.env = (false, eval e X.env) :: starEach es X.env := by rfl) (hpl : (backTo pos (starEach es X.env)).any (·.1) = false := by rfl) :
    PE X (.Call (.Name y p) (e :: es) [] pos) (fun σ H Q => σ[i]? = some (some (.ref f)) ∧ t σ H fun vs H1 => sp vs H1 Q E0) := by
  refine ⟨fun pins s σ H Q I h => ?_⟩
  obtain ⟨hs, ht⟩ := h
  refine wpAny_Call_Name_kw (thn ((pe_var (pos := p) hN hv hdb hcd).run pins s σ H (fun v H1 => v = .ref f ∧ H1 = H) I ⟨.ref f, hs, rfl, rfl⟩) fun u s1 ⟨v, H1, I1, r1, q1⟩ => ?_)
  obtain ⟨rfl, rfl⟩ := q1
  cases r1
  refine PySem.W.callWith_K (h₀ := X.base) I.ok.mod.kin hk (thn (ha.run pos pins s1 σ _ _ I1 ht) fun us s2 ⟨vs, H2, I2, r, q⟩ => ⟨I2.kIn, ?_⟩) he hpl
  have hl : (us ++ []).length = ps.length := by rw [List.append_nil, ← r.length]; exact F.len _ _ _ _ q
  have bb := hb s2 us I2.kIn hl
  rw [List.append_nil] at bb
  exact wpAny_call (codeAny_mono (run_G F hr hgd I2 bb r q) fun r s' hq => by
    rcases r with e | (u | _ | _ | _) <;> exact hq)
theorem dFnS (i : Nat) {S : Str → Option FM} (hS : ∀ x G, S x = some G → ∃ st ps, CalD X.prog X.w X.K X.mg X.base k x st ps n G) (hr : Room k X.A) (hgd : X.A.guards = some []) (hN : X.N[i]? = some y) (hv : Vis X.env.scope y)
    (ha : PA X (e :: es) (tA (dc X c W) fa)) (hn : ArN n fa) (hdb : (y == ("__debug__" : Str)) = false := by decide) (hcd : (y == ("__classdict__" : Str)) = false := by decide) (he : starEach (e :: es) X.env = (false, eval e X.env) :: starEach es X.env := by rfl) (hpl : (backTo pos (starEach es X.env)).any (·.1) = false := by rfl) :
    PE X (.Call (.Name y p) (e :: es) [] pos) (tD (dc X c W) (eFnS S i fa)) := by
  refine ⟨fun pins s σ H Q I h => ?_⟩
  obtain ⟨P, ow, r, w, R, h⟩ := h
  unfold eFnS at h
  cases ei : r[i]? with
  | none => rw [ei] at h; exact h.elim
  | some sv =>
    rw [ei] at h
    cases sv with
    | lam => exact h.elim
    | fn x =>
      have h2 : gE (dc X c W) (fD (dc X c W)) (match S x with
        | some G => eFn G fa r w
        | none => .bad) P ow r σ H Q := h
      cases es2 : S x with
      | none => rw [es2] at h2; exact h2.elim
      | some G =>
        rw [es2] at h2
        obtain ⟨st, ps, hC⟩ := hS x G es2
        obtain ⟨f, fd, F, m, kp, b, _⟩ := hC.ex
        obtain ⟨v, e3, f', ev, em⟩ := R.slot i _ ei
        subst ev
        have em' : X.mg x = some (.ref f') := em
        rw [m] at em'
        cases em'
        exact (pe_callGL (i := i) F hr hgd hN hv kp b ha hdb hcd he hpl).run pins s σ H Q I ⟨e3, red_fn (C := dc X c W) hn ⟨P, ow, r, w, R, h2⟩⟩
    | un => exact h.elim
    | val _ => exact h.elim
    | own _ => exact h.elim
    | st => exact h.elim
theorem vFc (x : Str) {st : Stmt} {G : FM} (C : CalD X.prog X.w X.K X.mg X.base k x st ps n G) (hg : Gl X x) (hd : (x == ("__debug__" : Str)) = false := by decide) : PE X (.Name x pos) (tV (dc X c W) (vF x)) := by
  obtain ⟨f, fd, F, m, kp, b, _⟩ := C.ex
  exact vFn hg m hd
/-- a def that is never come to -/
theorem calBad {P : Program} {w : World} {K : PySem.W.Frag} {mg : Str → Option Value} {base : Heap} {k : Nat} {x : Str} {st : Stmt} {f : Addr} {fd : FuncData} (F : Fun K x x st f fd) (m : mg x = some (.ref f)) (b : Binds K fd ps []) (hn : ps.length = n) : CalD P w K mg base k x st ps n (fun _ _ => .bad) :=
  calD F ⟨fun vs H Q E h => by rw [hn]; exact spD_len h, fun A outer s H args us vs Q E _ _ _ _ _ h => by
    obtain ⟨_, _, _, _, _, _, _, _, q⟩ := h
    exact q.elim⟩ m b
theorem CalD.up {P : Program} {w : World} {K : PySem.W.Frag} {mg : Str → Option Value} {base : Heap} {j : Nat} {x : Str} {st : Stmt} {G : FM} (C : CalD P w K mg base j x st ps n G) (h : j ≤ k) : CalD P w K mg base k x st ps n G := by
  obtain ⟨f, fd, F, m, kp, b, FF⟩ := C.ex
  exact ⟨f, fd, F.mono h, m, kp, b, FF⟩
/-! ## statements and tests as terms -/
theorem stWhile {tc : Expr} {body : List Stmt} {t : TM} {fb : SM} (n : Nat) (hp : PassesOwn (model X.prog X.w) X.A X.env X.xe) (ht : PT X tc (tT (dc X c W) t)) (hb : PSs X body (tS (dc X c W) fb)) : PS X (.While tc body [] pos) (tS (dc X c W) (whileL t fb n)) := PS.imp (ps_while hp ht hb) fun _ _ _ => red_while
theorem tOwn (i : Nat) {p1 : Pos} (ha : PE X (.Name y p1) (tVar i)) (he : ∀ whole, isTrue (.Name y p1) X.env whole = (do let v ← whole; standAt (Expr.pos (.Name y p1)); holding [v] (truthy v)) := by intro _; rfl) : PT X (.Name y p1) (tT (dc X c W) (tyOwn i)) := PT.imp (pt_truth ha he) fun _ _ _ => red_tyOwn
theorem stAugI (i : Nat) {x : Str} {f : EM} {pos' : Pos} (hN : X.N.Nodup) (hi : X.N[i]? = some x) (hx : Loc X.env.scope x) (he : PE X e (tD (dc X c W) f)) (hf : X.fn x = true ∨ X.env.scope.names.lookup x = some .local := by first | exact .inl rfl | exact .inr rfl | assumption) :
    PS X (.AugAssign (.Name x pos') .Add e pos) (tS (dc X c W) (sAugI i f)) := PS.imp (ps_aug hN hi hx he ip_add hf) fun _ _ _ => red_augI
theorem stAsgPop (i : Nat) {x : Str} {pt : Pat} {tg : Expr} {p1 apos cpos : Pos} (hv : PE X (.Name x p1) (tVar i)) (hg : PG X tg (tP (dc X c W) pt)) (hs : swapsWithSole [tg] (.Call (.Attribute (.Name x p1) "pop" apos) [] [] cpos) pos.line X.env = pure false := by rfl) (hw : swappedStores [tg] (.Call (.Attribute (.Name x p1) "pop" apos) [] [] cpos) X.env = pure none := by rfl)
    (h1 : (assignEach [tg] X.env).map (·.2) = [assign tg X.env] := by rfl) (hbase : attributeBase (.Name x p1) "pop" X.env (eval (.Name x p1) X.env) = eval (.Name x p1) X.env := by rfl) (hline : (apos.endLine == cpos.line) = true := by rfl) :
    PS X (.Assign [tg] (.Call (.Attribute (.Name x p1) "pop" apos) [] [] cpos) pos) (tS (dc X c W) (sAsgPop pt i)) :=
  PS.imp (ps_asg (pe_bm0 PySem.F.plainAttrs_list PySem.F.slot_list_pop PySem.F.type_list_pop mt_pop hv hbase hline) hg hs hw h1) fun _ _ _ => red_asgPop
end
/-! ## x in a list or a tuple of any data -/
def inG : PyData → PyData → Option PyData
  | d, .list ds => if PyData.canLayAll0 ds = true ∧ d.canLay0 = true ∧ PyData.depthAll ds ≤ 60 then some (.bool (ds.any fun y => PyData.eqv y d)) else none
  | d, .tuple ds => if PyData.canLayAll0 ds = true ∧ d.canLay0 = true ∧ PyData.depthAll ds ≤ 60 then some (.bool (ds.any fun y => PyData.eqv y d)) else none
  | _, _ => none
def notInG : PyData → PyData → Option PyData
  | d, .list ds => if PyData.canLayAll0 ds = true ∧ d.canLay0 = true ∧ PyData.depthAll ds ≤ 60 then some (.bool (!ds.any fun y => PyData.eqv y d)) else none
  | d, .tuple ds => if PyData.canLayAll0 ds = true ∧ d.canLay0 = true ∧ PyData.depthAll ds ≤ 60 then some (.bool (!ds.any fun y => PyData.eqv y d)) else none
  | _, _ => none
section
variable {X : Cx}
theorem o_inG (hu : X.A.units + 64 < cLine) : OpR X (compareOp .In) (rD2 X.K inG) := by
  intro pins s σ H x y v u Q I rx ry h
  obtain ⟨O, d, e, z, dom, hd, he, hz, q⟩ := h
  cases e with
  | list ds =>
    simp only [inG] at hz
    by_cases hc : PyData.canLayAll0 ds = true ∧ d.canLay0 = true ∧ PyData.depthAll ds ≤ 60
    · rw [if_pos hc] at hz; cases hz
      obtain ⟨as, r1⟩ := Dp.reads I d x v (hd.dp (noDict_of_canLay d hc.2.1)) rx
      obtain ⟨bs, r2⟩ := Dp.reads I _ y u (he.dp (by rw [PyData.hasDict]; exact noDict_of_canLayAll ds hc.1)) ry
      exact SeqAt.in_list_reads r2 r1 hc.1 hc.2.1 (by have := Nat.min_le_left (PyData.depthAll ds) d.depth; omega) ⟨.bl _, H, I, rfl, q _ _ (Same.refl _) (.bl _)⟩
    · rw [if_neg hc] at hz; cases hz
  | tuple ds =>
    simp only [inG] at hz
    by_cases hc : PyData.canLayAll0 ds = true ∧ d.canLay0 = true ∧ PyData.depthAll ds ≤ 60
    · rw [if_pos hc] at hz; cases hz
      obtain ⟨as, r1⟩ := Dp.reads I d x v (hd.dp (noDict_of_canLay d hc.2.1)) rx
      obtain ⟨bs, r2⟩ := Dp.reads I _ y u (he.dp (by rw [PyData.hasDict]; exact noDict_of_canLayAll ds hc.1)) ry
      exact SeqAt.in_tuple_reads r2 r1 hc.1 hc.2.1 (by have := Nat.min_le_left (PyData.depthAll ds) d.depth; omega) ⟨.bl _, H, I, rfl, q _ _ (Same.refl _) (.bl _)⟩
    · rw [if_neg hc] at hz; cases hz
  | _ => simp only [inG] at hz; cases hz
theorem o_notInG (hu : X.A.units + 64 < cLine) : OpR X (compareOp .NotIn) (rD2 X.K notInG) := by
  intro pins s σ H x y v u Q I rx ry h
  obtain ⟨O, d, e, z, dom, hd, he, hz, q⟩ := h
  cases e with
  | list ds =>
    simp only [notInG] at hz
    by_cases hc : PyData.canLayAll0 ds = true ∧ d.canLay0 = true ∧ PyData.depthAll ds ≤ 60
    · rw [if_pos hc] at hz; cases hz
      obtain ⟨as, r1⟩ := Dp.reads I d x v (hd.dp (noDict_of_canLay d hc.2.1)) rx
      obtain ⟨bs, r2⟩ := Dp.reads I _ y u (he.dp (by rw [PyData.hasDict]; exact noDict_of_canLayAll ds hc.1)) ry
      exact SeqAt.notIn_list_reads r2 r1 hc.1 hc.2.1 (by have := Nat.min_le_left (PyData.depthAll ds) d.depth; omega) ⟨.bl _, H, I, rfl, q _ _ (Same.refl _) (.bl _)⟩
    · rw [if_neg hc] at hz; cases hz
  | tuple ds =>
    simp only [notInG] at hz
    by_cases hc : PyData.canLayAll0 ds = true ∧ d.canLay0 = true ∧ PyData.depthAll ds ≤ 60
    · rw [if_pos hc] at hz; cases hz
      obtain ⟨as, r1⟩ := Dp.reads I d x v (hd.dp (noDict_of_canLay d hc.2.1)) rx
      obtain ⟨bs, r2⟩ := Dp.reads I _ y u (he.dp (by rw [PyData.hasDict]; exact noDict_of_canLayAll ds hc.1)) ry
      exact SeqAt.notIn_tuple_reads r2 r1 hc.1 hc.2.1 (by have := Nat.min_le_left (PyData.depthAll ds) d.depth; omega) ⟨.bl _, H, I, rfl, q _ _ (Same.refl _) (.bl _)⟩
    · rw [if_neg hc] at hz; cases hz
  | _ => simp only [notInG] at hz; cases hz
end
end DL

namespace DL
open L2 PySem PySem.Spec PyProof.Rows
/-! ## two own lists at once, the second one of written values -/
theorem leafs_do {K : PySem.W.Frag} {H : Hp} {O O' : Addr → Prop} : ∀ {vs : List V} {ds : List PyData}, DoAll K H O vs ds → ds.all leaf = true → DoAll K H O' vs ds
  | _, _, .nil, _ => .nil
  | _, _, .cons h t, hl => by
    rw [List.all_cons, Bool.and_eq_true] at hl
    exact .cons (leaf_do h hl.1) (leafs_do t hl.2)
theorem red_own2c {C : Dc} {D : Ends} {i j : Nat} {f g : IM} {es : List PyData} {σ : L2.St} {H : Hp} (hg : ∀ r w, g r w = .ok es w) (hes : es.all leaf = true) (h : tS C (sOwn2 i j f g) D σ H) : tPar i j (tCons (tLst (tL C f)) (tCons (tLst (tL C g)) tNil)) D σ H := by
  obtain ⟨P, ow, r, w, R, h⟩ := h
  refine ⟨P, ow, r, w, R, gE.bindS h fun ds w1 vs H1 _ k1 R1 p1 h1 => ?_⟩
  rw [hg, RE.bindS_ok] at h1
  by_cases hl : ds.length ≤ szL ∧ es.length ≤ szL
  · rw [if_pos hl] at h1
    refine ⟨by rw [DoAll.length p1]; exact Nat.le_trans hl.1 szL_le, fun p hp => ?_⟩
    have R2 := R1.setOwn i hp p1
    refine ⟨P, ow, r, w1, R1.new hp, ?_⟩
    rw [hg]
    intro ys H3 k3 R3 p3
    refine ⟨by rw [DoAll.length p3]; exact Nat.le_trans hl.2 szL_le, fun q hq => ⟨.ref p, .ref q, rfl, ?_⟩⟩
    have st3 : StOk C.c.sa w1 H3 := R3.st
    have R2' : C.Rl P (owOn ow i p) (r.set i (.own ds)) w1 (σ.set i (some (.ref p))) H3 := R2.after k3 st3
    exact h1 _ _ _ (R2'.setOwn j hq (leafs_do p3 hes))
  · rw [if_neg hl] at h1; exact h1.elim
theorem stOwn2c {X : Cx} {c : Cn} {W : XW} {i j : Nat} {x y : Str} {a b : Expr} {f g : IM} {es : List PyData} {px py pt pos : Pos} {kt k2 pt2} (hc : X.calm = true) (hN : X.N.Nodup) (hi : X.N[i]? = some x) (hj : X.N[j]? = some y) (hij : i ≠ j)
    (hx : X.env.scope.names.lookup x = some .local) (hy : X.env.scope.names.lookup y = some .local) (ha : PE X a (tLst (tL (dc X c W) f))) (hb : PE X b (tLst (tL (dc X c W) g))) (hg : ∀ r w, g r w = .ok es w) (hes : es.all leaf = true)
    (hw : swappedStores [.Tuple [.Name x px, .Name y py] kt pt] (.Tuple [a, b] k2 pt2) X.env = pure (some [x, y]))
    (hs : swapsWithSole [.Tuple [.Name x px, .Name y py] kt pt] (.Tuple [a, b] k2 pt2) pos.line X.env = pure false := by rfl)
    (h1 : starEach [a, b] X.env = (false, eval a X.env) :: starEach [b] X.env := by rfl) (h2 : starEach [b] X.env = (false, eval b X.env) :: starEach [] X.env := by rfl) :
    PS X (.Assign [.Tuple [.Name x px, .Name y py] kt pt] (.Tuple [a, b] k2 pt2) pos) (tS (dc X c W) (sOwn2 i j f g)) :=
  PS.imp (ps_par hc hN hi hj hij hx hy (pa_cons ha (pa_cons hb pa_nil h2) h1) hw hs) fun _ _ _ => red_own2c hg hes
/-! ## a module's constants -/
section
variable {X : Cx} {c : Cn} {W : XW} {pos : Pos} {x : Str}
theorem dGs {z : Str} {u : Value} (hg : Gl X x) (hm : X.mg x = some u) (r : RelV (.str z) u) (hd : (x == ("__debug__" : Str)) = false := by decide) : PE X (.Name x pos) (tD (dc X c W) (eC (.str z))) := PE.imp (pe_glob hg hm r hd) fun _ _ _ => red_c fun _ _ => .str z
theorem dGt {d : PyData} {a : Addr} {u : Value} (hg : Gl X x) (hm : X.mg x = some u) (hu : u = .ref a) (hd0 : ∀ H O, Do X.K H O (.ref a) d) (hd : (x == ("__debug__" : Str)) = false := by decide) : PE X (.Name x pos) (tD (dc X c W) (eC d)) := PE.imp (pe_glob (v := .ref a) hg hm hu hd) fun _ _ _ => red_c fun _ _ => hd0 _ _
/-- a written tuple of texts and ints -/
def leafV : PyData → V
  | .bool b => .bl b
  | .int i => .int i
  | .str z => .str z
  | _ => .non
theorem leafV_do {K : PySem.W.Frag} {H : Hp} {O : Addr → Prop} : ∀ ds : List PyData, ds.all leaf = true → DoAll K H O (ds.map leafV) ds
  | [], _ => .nil
  | d :: ds, h => by
    rw [List.all_cons, Bool.and_eq_true] at h
    refine .cons ?_ (leafV_do ds h.2)
    cases d with
    | none => exact .non
    | bool b => exact .bl b
    | int i => exact .int i
    | str z => exact .str z
    | list _ => exact absurd h.1 Bool.false_ne_true
    | tuple _ => exact absurd h.1 Bool.false_ne_true
    | dict _ => exact absurd h.1 Bool.false_ne_true
theorem k_tup {K : PySem.W.Frag} {a : Addr} {ds : List PyData} {its : Array Value} {n : Nat} {od : Option Addr} {osl : Array (Option Value)} (lk : K.lookup a = some ⟨.type "tuple", od, .seq its n, osl⟩) (hs : its.size ≤ sizeLine) (hv : Vals (ds.map leafV) its.toList) (hl : ds.all leaf = true) (hs2 : strsD ds = true) : ∀ (H : Hp) (O : Addr → Prop), Do K H O (.ref a) (.tuple ds) := fun H O =>
  .tup (.inr ⟨_, its, n, lk, rfl, rfl, hs, hv⟩) (.inr hs2) (leafV_do ds hl)
end
/-! ## which def a name holds -/
def lookF : List (Str × FM) → Str → Option FM
  | [], _ => none
  | p :: l, x => if x = p.1 then some p.2 else lookF l x
section
variable {P : Program} {w : World} {K : PySem.W.Frag} {mg : Str → Option Value} {base : Heap} {k n : Nat}
theorem lookF_nil : ∀ x G, lookF [] x = some G → ∃ st ps, CalD P w K mg base k x st ps n G := fun x G h => nomatch h
theorem lookF_cons {x0 : Str} {G0 : FM} {st : Stmt} {ps : List Str} {l : List (Str × FM)} (C : CalD P w K mg base k x0 st ps n G0) (h : ∀ x G, lookF l x = some G → ∃ st ps, CalD P w K mg base k x st ps n G) : ∀ x G, lookF ((x0, G0) :: l) x = some G → ∃ st ps, CalD P w K mg base k x st ps n G := fun x G e => by
  unfold lookF at e
  by_cases hx : x = x0
  · rw [if_pos hx] at e
    cases e
    subst hx
    exact ⟨st, ps, C⟩
  · rw [if_neg hx] at e
    exact h x G e
end
end DL

namespace DL
open L2 PySem PySem.Spec PyProof.Rows
theorem like_okN {P : Program} {w : World} {K : PySem.W.Frag} {mg : Str → Option Value} {base : Heap} {f : Addr} {fd : FuncData} {st : Stmt} {gn dn : Str} (F : Fun K "_law_like" "_law_like" st f fd) (S : FnScope [gn, dn] [gn, dn] (defScope st)) (mr : mg "repr" = none)
    (hbd : ∃ p1 p2 p3 p4 p5 p6 p7 p8 p9 p10 : Pos, defBody st = [.Return (some (.Compare (.Call (.Name "repr" p1) [.Name gn p2] [] p3) [.Eq] [.Call (.Name "repr" p4) [.Name dn p5] [] p6] p7)) p8]) (hg0 : (gn == ("__debug__" : Str)) = false) (hd0 : (dn == ("__debug__" : Str)) = false) (hg1 : (gn == ("__classdict__" : Str)) = false) (hd1 : (dn == ("__classdict__" : Str)) = false) (hgl : (defScope st).names.lookup ("repr" : Str) = some .globalImplicit)
    (h1 : (defScope st).names.lookup gn = some .local) (h2 : (defScope st).names.lookup dn = some .local) :
    FnG P w K mg base 1 f fd [gn, dn] (spD mg K 2 likeG) := by
  obtain ⟨p1, p2, p3, p4, p5, p6, p7, p8, _, _, eb⟩ := hbd
  refine fn_G F S (fun vs H Q E h => spD_len h) fun cdv A outer s H vs Q E hr hgd _ h => ?_
  obtain ⟨c, as, wd, hn, h0, ok, ha, hst, hG⟩ := h
  rw [eb]
  refine ⟨_, pss_one (ps_ret (pe_cmpR op_eq (pe_callB (c_repr hgd (room200 hr)) (by exact hgl) mr (by decide +kernel) (pa_cons (pe_var (i := 0) rfl (.inl h1) hg0 hg1) pa_nil)) (pe_callB (c_repr hgd (room200 hr)) (by exact hgl) mr (by decide +kernel) (pa_cons (pe_var (i := 1) rfl (.inl h2) hd0 hd1) pa_nil)) (nomark _))), ?_⟩
  match as, hn, ha, hG with
  | [a, b], _, ha, hG =>
    cases a with
    | val d =>
      cases b with
      | val e =>
        obtain ⟨x, ex, x', exx, px⟩ := ha.2 0 _ rfl
        obtain ⟨y, ey, y', eyy, py⟩ := ha.2 1 _ rfl
        cases exx
        cases eyy
        have hv : vs = [x, y] := by
          have hl := ha.1
          match vs, hl, ex, ey with
          | [v1, v2], _, ex, ey =>
            cases ex
            cases ey
            rfl
        subst hv
        by_cases hc : d = e ∧ okR d
        · obtain ⟨rfl, hk⟩ := hc
          have hG' : ∀ v H', Keep (SAd c.sa) H H' → StOk c.sa wd H' → Do K H' c.O0 v (.bool true) → Q v H' := by
            have e1 : likeG [.val d, .val d] wd = .ok (.bool true) wd := by
              unfold likeG
              exact if_pos ⟨rfl, hk⟩
            rw [e1] at hG
            exact hG
          refine ⟨x, rfl, x, d, rfl, px.dp (good_facts d hk.1).2.2, hk, y, rfl, y, d, rfl, py.dp (good_facts d hk.1).2.2, hk, rfl, ?_⟩
          rw [decide_eq_true (rfl : V.str d.shown = V.str d.shown)]
          exact hG' _ H .refl hst (.bl true)
        · have e1 : likeG [.val d, .val e] wd = .bad := by
            unfold likeG
            exact if_neg hc
          rw [e1] at hG
          exact hG.elim
      | _ => exact hG.elim
    | _ => exact hG.elim
end DL

namespace DL
open L2 PySem PySem.Spec PyProof.Rows
/-! ## two names at once -/
def sPar2 (i j : Nat) (f g : EM) : SM := fun r w => (f r w).bindS fun d w1 => (g r w1).bindS fun e w2 => .nx ((r.set i (.val d)).set j (.val e)) w2
theorem red_par2 {C : Dc} {D : Ends} {i j : Nat} {f g : EM} {σ : L2.St} {H : Hp} (h : tS C (sPar2 i j f g) D σ H) : tPar i j (tCons (tD C f) (tCons (tD C g) tNil)) D σ H := by
  obtain ⟨P, ow, r, w, R, h⟩ := h
  refine ⟨P, ow, r, w, R, gE.bindS h fun d w1 v H1 _ k1 R1 p1 h1 => ⟨P, ow, r, w1, R1, gE.bindS h1 fun e w2 u H2 _ k2 R2 p2 h2 => ⟨v, u, rfl, ?_⟩⟩⟩
  have p1' : Do C.K H2 (Ow C.c.O0 ow) v d := Do.keep k2 R1.subO p1
  exact h2 _ _ _ ((R2.setVal i p1').setVal j (p2.weak owOff_sub))
theorem stPar2 {X : Cx} {c : Cn} {W : XW} {i j : Nat} {x y : Str} {a b : Expr} {f g : EM} {px py pt pos : Pos} {kt k2 pt2} (hc : X.calm = true) (hN : X.N.Nodup) (hi : X.N[i]? = some x) (hj : X.N[j]? = some y) (hij : i ≠ j)
    (hx : X.env.scope.names.lookup x = some .local) (hy : X.env.scope.names.lookup y = some .local) (ha : PE X a (tD (dc X c W) f)) (hb : PE X b (tD (dc X c W) g))
    (hw : swappedStores [.Tuple [.Name x px, .Name y py] kt pt] (.Tuple [a, b] k2 pt2) X.env = pure (some [x, y]))
    (hs : swapsWithSole [.Tuple [.Name x px, .Name y py] kt pt] (.Tuple [a, b] k2 pt2) pos.line X.env = pure false := by rfl)
    (h1 : starEach [a, b] X.env = (false, eval a X.env) :: starEach [b] X.env := by rfl) (h2 : starEach [b] X.env = (false, eval b X.env) :: starEach [] X.env := by rfl) :
    PS X (.Assign [.Tuple [.Name x px, .Name y py] kt pt] (.Tuple [a, b] k2 pt2) pos) (tS (dc X c W) (sPar2 i j f g)) :=
  PS.imp (ps_par hc hN hi hj hij hx hy (pa_cons ha (pa_cons hb pa_nil h2) h1) hw hs) fun _ _ _ => red_par2
end DL

namespace DL
open L2 PySem PySem.Spec PyProof.Rows
/-! ## max, min of two ints or of a list of ints -/
def maxLst : List Int → Int
  | [] => 0
  | x :: r => if r = [] then x else if maxLst r ≤ x then x else maxLst r
def minLst : List Int → Int
  | [] => 0
  | x :: r => if r = [] then x else if x ≤ minLst r then x else minLst r
theorem maxLst_spec : ∀ ns : List Int, ns ≠ [] → maxLst ns ∈ ns ∧ ∀ a ∈ ns, a ≤ maxLst ns
  | [], h => absurd rfl h
  | x :: r, _ => by
    unfold maxLst
    by_cases hr : r = []
    · rw [if_pos hr]
      subst hr
      exact ⟨List.mem_cons_self .., fun a ha => by rw [List.mem_singleton.mp ha]; exact Int.le_refl _⟩
    · rw [if_neg hr]
      obtain ⟨h1, h2⟩ := maxLst_spec r hr
      by_cases hx : maxLst r ≤ x
      · rw [if_pos hx]
        refine ⟨List.mem_cons_self .., fun a ha => ?_⟩
        rcases List.mem_cons.mp ha with rfl | ha
        · exact Int.le_refl _
        · exact Int.le_trans (h2 a ha) hx
      · rw [if_neg hx]
        refine ⟨List.mem_cons_of_mem _ h1, fun a ha => ?_⟩
        rcases List.mem_cons.mp ha with rfl | ha
        · omega
        · exact h2 a ha
theorem minLst_spec : ∀ ns : List Int, ns ≠ [] → minLst ns ∈ ns ∧ ∀ a ∈ ns, minLst ns ≤ a
  | [], h => absurd rfl h
  | x :: r, _ => by
    unfold minLst
    by_cases hr : r = []
    · rw [if_pos hr]
      subst hr
      exact ⟨List.mem_cons_self .., fun a ha => by rw [List.mem_singleton.mp ha]; exact Int.le_refl _⟩
    · rw [if_neg hr]
      obtain ⟨h1, h2⟩ := minLst_spec r hr
      by_cases hx : x ≤ minLst r
      · rw [if_pos hx]
        refine ⟨List.mem_cons_self .., fun a ha => ?_⟩
        rcases List.mem_cons.mp ha with rfl | ha
        · exact Int.le_refl _
        · exact Int.le_trans hx (h2 a ha)
      · rw [if_neg hx]
        refine ⟨List.mem_cons_of_mem _ h1, fun a ha => ?_⟩
        rcases List.mem_cons.mp ha with rfl | ha
        · omega
        · exact h2 a ha
def maxG : List PyData → Option PyData
  | [.int a, .int b] => some (.int (if b > a then b else a))
  | [.list ds] => (toInts ds).bind fun ns => if ns = [] then none else some (.int (maxLst ns))
  | _ => none
def minG : List PyData → Option PyData
  | [.int a, .int b] => some (.int (if b < a then b else a))
  | [.list ds] => (toInts ds).bind fun ns => if ns = [] then none else some (.int (minLst ns))
  | _ => none
section
variable {X : Cx}
theorem c_maxG (hc : X.calm = true) : CallR X (.builtin "max") (rDs X.K maxG) := by
  refine data_call (CallR.or (call_max2 hc) (cr_max hc)) fun xs H Q ds z O dom hd hg q => ?_
  match ds, hg, hd with
  | [.int a, .int b], hg, hd =>
    obtain ⟨v, u, rfl, p1, p2⟩ := two_do hd
    simp only [maxG] at hg
    cases hg; cases p1; cases p2
    exact .inl ⟨a, b, rfl, q _ _ (Same.refl _) (.int _)⟩
  | [.list ys], hg, hd =>
    obtain ⟨v, rfl, p⟩ := one_do hd
    simp only [maxG] at hg
    cases e : toInts ys with
    | none => rw [e] at hg; cases hg
    | some ns =>
      rw [e, Option.bind_some] at hg
      by_cases hn : ns = []
      · rw [if_pos hn] at hg; cases hg
      · rw [if_neg hn] at hg
        cases hg
        cases p with
        | lst hx n ha =>
          have q1 := toInts_do ha e
          subst q1
          refine .inr ⟨_, ns, rfl, SqL.of hx, List.length_pos_iff.mpr hn, fun m h1 h2 => ?_⟩
          obtain ⟨k1, k2⟩ := maxLst_spec ns hn
          have em : m = maxLst ns := Int.le_antisymm (k2 m h1) (h2 _ k1)
          subst em
          exact q _ _ (Same.refl _) (.int _)
theorem c_minG (hc : X.calm = true) : CallR X (.builtin "min") (rDs X.K minG) := by
  refine data_call (CallR.or (call_min2 hc) (cr_min hc)) fun xs H Q ds z O dom hd hg q => ?_
  match ds, hg, hd with
  | [.int a, .int b], hg, hd =>
    obtain ⟨v, u, rfl, p1, p2⟩ := two_do hd
    simp only [minG] at hg
    cases hg; cases p1; cases p2
    exact .inl ⟨a, b, rfl, q _ _ (Same.refl _) (.int _)⟩
  | [.list ys], hg, hd =>
    obtain ⟨v, rfl, p⟩ := one_do hd
    simp only [minG] at hg
    cases e : toInts ys with
    | none => rw [e] at hg; cases hg
    | some ns =>
      rw [e, Option.bind_some] at hg
      by_cases hn : ns = []
      · rw [if_pos hn] at hg; cases hg
      · rw [if_neg hn] at hg
        cases hg
        cases p with
        | lst hx n ha =>
          have q1 := toInts_do ha e
          subst q1
          refine .inr ⟨_, ns, rfl, SqL.of hx, List.length_pos_iff.mpr hn, fun m h1 h2 => ?_⟩
          obtain ⟨k1, k2⟩ := minLst_spec ns hn
          have em : m = minLst ns := Int.le_antisymm (h2 _ k1) (k2 m h1)
          subst em
          exact q _ _ (Same.refl _) (.int _)
end
end DL

namespace DL
open L2 PySem PySem.Spec PyProof.Rows
/-! ## dict comprehensions whose keys are tuples of ints and texts -/
section
variable {X : Cx}
theorem room_tuple (hu : X.A.units + 64 < cLine) : (tupleKind (mixKind X.prog X.w)).room X.A := by
  show X.A.units < cLine
  omega
/-- the key at l, the value z are put into D -/
theorem dset_tuple {pins : List (Addr × Obj)} {σ : L2.St} {H : Hp} {s : Shared} {E : Value → Shared → Prop} {D l : Addr} {kvs : List (List Key × V)} {k : List Key} {z : V} {u r : Value} (hu : X.A.units + 64 < cLine) (I : Inv X pins σ H s) (hD : H D = some (.dT kvs)) (hl : H l = some (.tup (k.map kV)))
    (few : kvs.length < sizeLine) (ru : RelV (.ref l) u) (rz : RelV z r) : wpAny (model X.prog X.w) X.A (dictSet D u r) (fun _ s' => Inv X pins σ (upd H D (.dT (putK kvs k z))) s') E s := by
  cases (show u = Value.ref l from ru)
  obtain ⟨fits, nsm, xs, pr, at'⟩ := dt_of I.hok hD
  have le : (putK kvs k z).length ≤ sizeLine := Nat.le_trans (length_putK kvs k z) few
  have fx : xs.length ≤ sizeLine := Paired.length pr ▸ fits
  refine wpAny_dictSet_heap (hsz := fx) (room_tuple hu) (key_of I.hok hl) at' fun h2 dd sb => ?_
  obtain ⟨q, es, ep, e1, e2, e3, e4, _, e6⟩ := dd
  have kp : KT (upd H D (.dT (putK kvs k z))) (putK kvs k z) (storedH xs k l r) := (pr.put k hl rz).keeps fun c ys ec => by
    rw [upd_ne fun h => by rw [h, hD] at ec; cases ec]
    exact ec
  exact d_write I (hD ▸ True.intro) sb ⟨q, e1⟩ ⟨le, nsm, _, kp, q, es, ep, e1, e2, e3, e4, e6⟩
/-- one turn: the target, the test, the key, the value; N holds behind it -/
def turnT (g : TG) (tt : TT) (tk tv : TE) (vs : List Nat) (σ : L2.St) (D : Addr) (N : Hp → Prop) (x : V) (H : Hp) : Prop :=
  g x (wipe σ vs) H fun σ2 H2 => wipe σ2 vs = wipe σ vs ∧ tt σ2 H2 fun b H3 =>
    (b = false → N H3) ∧ (b = true → tk σ2 H3 fun y H4 => tv σ2 H4 fun z H5 => ∃ l k kvs, y = .ref l ∧ H5 l = some (.tup (k.map kV)) ∧ H5 D = some (.dT kvs) ∧ kvs.length < sizeLine ∧ N (upd H5 D (.dT (putK kvs k z))))
/-- the walk J: at each turn it stops or goes -/
def walkDc (J : It) (W : Nat → Nat → Hp → Prop) (fin : Hp → Prop) (turn : (Hp → Prop) → V → Hp → Prop) : Prop :=
  ∀ i m H, W i m H → (J.stop i H ∧ fin H) ∨ (J.go i H ∧ ∃ N : Hp → Prop, (∀ H', N H' → ∃ m', m' < m ∧ W (i + 1) m' H') ∧ ∀ x H', J.yld i H x H' → turn N x H')
def tDcT (wi : TI) (g : TG) (tt : TT) (tk tv : TE) (vs : List Nat) : TE := fun σ H Q =>
  wi σ H fun J H1 => ∀ D, H1 D = none → ∃ W : Nat → Nat → Hp → Prop, (∃ m, W 0 m (upd H1 D (.dT []))) ∧ walkDc J W (fun H => Q (.ref D) H) (turnT g tt tk tv vs σ D)
section
variable {pins : List (Addr × Obj)} {σ : L2.St} {H0 H : Hp} {s0 s : Shared} {scope : Scope} {env : Env} {own : List (Str × Nat)} {fp : List Addr}
/-- the iterator's addresses are free in the block -/
theorem blk_fp (I : Inv (X.blk s0 H0 scope env fp) [] σ H s) (n : ∀ b ∈ fp, H b = none) : ∀ b ∈ fp, FpOk (X.blk s0 H0 scope env fp) [] H b := by
  intro b hb
  obtain ⟨e1, e2⟩ := I.ok.exf b hb
  exact ⟨n b hb, e1, I.ok.exfs b hb, .inl hb, fun x c e => e2 x c e, fun p hp => by cases (show p ∈ ([] : List (Addr × Obj)) from hp)⟩
/-- what a turn leaves: the iterator as it stood, the block's own slots forgotten -/
theorem blk_turn {J : It} {it : Addr} {tn : Nat → Heap → Prop} {tg : Expr} {i : Nat} {σ0 : L2.St} {h7 : Heap} (T : L2.Turn X.prog X.w X.K tg J fp it tn) (st : tn i h7) (I : Inv (X.blk s0 H0 scope env fp) ([] ++ pinsAt fp h7) σ H s) (hw : wipe σ (own.map (·.2)) = wipe σ0 (own.map (·.2))) :
    Inv (X.blk s0 H0 scope env fp) [] (wipe σ0 (own.map (·.2))) H s ∧ tn i s.heap ∧ ∀ b ∈ fp, H b = none := by
  have pn : ∀ b ∈ fp, ∀ o, h7.get? b = some o → s.heap.get? b = some o ∧ H b = none := by
    intro b hb o e
    obtain ⟨z1, z2, _⟩ := I.pin (b, o) (List.mem_append_right _ (List.mem_append_right _ (mem_pinsAt hb e)))
    exact ⟨z1, z2⟩
  refine ⟨?_, T.keep _ _ _ st fun b hb o e => (pn b hb o e).1, fun b hb => ?_⟩
  · rw [← hw]
    exact (I.unpinned (pins := [])).weak (wipe_length _ _) fun j v e => (wipe_some e).1
  · obtain ⟨o, e, _⟩ := T.obj _ _ st b hb
    exact (pn b hb o e).2
/-- the block's loop -/
theorem loop_dcT {kx vx tg iter : Expr} {ifs : List Expr} {pos : Pos} {J : It} {it D C : Addr} {tn : Nat → Heap → Prop} {g : TG} {tt : TT} {tk tv : TE} {fin : Hp → Prop} {use : Option (Value → Sem Unit)} {Qf : Value → Shared → Prop} {W : Nat → Nat → Hp → Prop} {σ0 : L2.St} {n0 : Nat} {H1 : Hp} {s1 : Shared}
    (hu : X.A.units + 64 < cLine) (hc : X.calm = true) (T : L2.Turn X.prog X.w X.K tg J fp it tn) (pg : PG (X.blk s0 H0 scope env fp) tg g) (pt : PTs (X.blk s0 H0 scope env fp) ifs tt) (pk : PE (X.blk s0 H0 scope env fp) kx tk) (pv : PE (X.blk s0 H0 scope env fp) vx tv)
    (hW : walkDc J W fin (turnT g tt tk tv (own.map (·.2)) σ0 D)) (I1 : Inv (X.blk s0 H0 scope env fp) [] (wipe σ0 (own.map (·.2))) H1 s1) (st1 : tn 0 s1.heap) (n1 : ∀ b ∈ fp, H1 b = none) (w1 : W 0 n0 H1)
    (out : ∀ H' s', Inv (X.blk s0 H0 scope env fp) [] (wipe σ0 (own.map (·.2))) H' s' → fin H' → compPost (model X.prog X.w) X.A X.xe use Qf (.ref D) C (.ok .next) s') :
    codeAny (model X.prog X.w) X.A (.compLoop (.DictComp kx vx [⟨tg, iter, ifs, 0⟩] scope pos) 0 (.ref it) (.ref D) env) (compPost (model X.prog X.w) X.A X.xe use Qf (.ref D) C) s1 := by
  let At : Nat → Shared → Prop := fun m s' => ∃ i H', (Inv (X.blk s0 H0 scope env fp) [] (wipe σ0 (own.map (·.2))) H' s' ∧ tn i s'.heap ∧ ∀ b ∈ fp, H' b = none) ∧ W i m H'
  refine compLoop_anyD At (fun m s5 h5 => ?_) n0 ⟨0, H1, ⟨I1, st1, n1⟩, w1⟩
  obtain ⟨i, H5, ⟨I5, st5, n5⟩, w5⟩ := h5
  rcases hW i m H5 w5 with ⟨hstop, hfin⟩ | ⟨hgo, N, hN, hturn⟩
  · exact thnF (T.done (X.blk s0 H0 scope env fp) rfl rfl rfl hc i [] s5 _ H5 (fun _ _ => False) I5 (blk_fp I5 n5) st5 hstop) fun r s6 ⟨er, I6⟩ => er ▸ out H5 s6 I6 hfin
  · have back : ∀ {σ8 : L2.St} {h7 : Heap} {H' : Hp} {s' : Shared}, tn (i + 1) h7 → Inv (X.blk s0 H0 scope env fp) ([] ++ pinsAt fp h7) σ8 H' s' → wipe σ8 (own.map (·.2)) = wipe σ0 (own.map (·.2)) → N H' → ∃ m', m' < m ∧ At m' s' := by
      intro σ8 h7 H' s' st7 I' hw nx
      obtain ⟨m', lt, w'⟩ := hN H' nx
      exact ⟨m', lt, i + 1, H', blk_turn T st7 I' hw, w'⟩
    refine thnF (T.item (X.blk s0 H0 scope env fp) rfl rfl rfl hc i [] s5 _ H5 (fun _ _ => False) I5 (blk_fp I5 n5) st5 hgo) fun r s6 ⟨u, er, h6⟩ => ?_
    rw [er]
    refine thnF h6 fun _ s7 ⟨x, H7, I7, rx, y7, st7, n7⟩ => ?_
    have P7 := I7.pinned (blk_fp I7 n7) (T.obj _ _ st7)
    refine thnF (pg.run _ s7 _ H7 x u _ P7 rx (hturn x H7 y7)) fun _ s8 ⟨σ8, H8, I8, hw8, q8⟩ => ?_
    refine thnF (pt.run _ s8 σ8 H8 _ I8 q8) fun b s9 ⟨H9, I9, qf, qt⟩ => ?_
    by_cases hb : b = true
    · rw [if_pos hb]
      refine thnF (pk.run _ s9 σ8 H9 _ I9 (qt hb)) fun ku sA ⟨yk, HA, IA, rA, qA⟩ => ?_
      refine thnF (pv.run _ sA σ8 HA _ IA qA) fun zu sB ⟨yz, HB, IB, rB, l, k, kvs, ek, hl, hD, few, nx⟩ => ?_
      rw [ek] at rA
      exact thnF (dset_tuple (X := X.blk s0 H0 scope env fp) hu IB hD hl few rA rB) fun _ sC IC => back st7 IC hw8 nx
    · rw [if_neg hb]
      exact back st7 I9 hw8 (qf (Bool.eq_false_iff.mpr hb))
theorem pe_dcT {kx vx tg iter : Expr} {ifs : List Expr} {pos : Pos} {wi : TI} {g : TG} {tt : TT} {tk tv : TE} (hu : X.A.units + 64 < cLine) (hc : X.calm = true) (hN : X.N.Nodup) (hi : PI X tg iter wi) (ok : BlkOk X.N X.env.scope scope own)
    (hg : ∀ (s : Shared) (H : Hp) (C : Addr) (cl : List (Str × Addr)) (fp : List Addr), PG (X.blk s H scope (compEnvC scope cl C X.env) fp) tg g) (ht : ∀ (s : Shared) (H : Hp) (C : Addr) (cl : List (Str × Addr)) (fp : List Addr), PTs (X.blk s H scope (compEnvC scope cl C X.env) fp) ifs tt)
    (hk : ∀ (s : Shared) (H : Hp) (C : Addr) (cl : List (Str × Addr)) (fp : List Addr), PE (X.blk s H scope (compEnvC scope cl C X.env) fp) kx tk) (hv : ∀ (s : Shared) (H : Hp) (C : Addr) (cl : List (Str × Addr)) (fp : List Addr), PE (X.blk s H scope (compEnvC scope cl C X.env) fp) vx tv)
    (hs : ∀ x, foldedSetIterable iter X.env x = pure x := by intro _; rfl) : PE X (.DictComp kx vx [⟨tg, iter, ifs, 0⟩] scope pos) (tDcT wi g tt tk tv (own.map (·.2))) := by
  refine ⟨fun pins s σ H Q I h => ?_⟩
  rw [arm_eval_DictComp]
  have cells : ∀ y ∈ scope.names, y.2 = .free → ∃ c, X.env.cells.lookup y.1 = some c := by
    intro y hy e
    exact I.ok.has _ ((ok.free y hy e).imp id id)
  refine wpAny_comprehension_free (use := none) rfl hs (closure_ok cells) ok.kind (fun y hy e => by rw [ok.uniq y hy, e]) ?_
  refine thn (hi.run pins s σ H _ I h) fun xv s1 hx => thn hx fun itv s2 ⟨it, fp, tn, J, H2, eit, I2, T, st2, f2, q⟩ => ?_
  subst eit
  have nD : H2 s2.heap.objs.size = none := I2.hok.fresh (Nat.le_refl _)
  obtain ⟨W, ⟨n0, w0⟩, hW⟩ := q _ nD
  refine wpAny_newObj_type (newEnv_comp ?_)
  -- the new dict stands
  have kD : ∀ b o, s2.heap.get? b = some o → (s2.heap.push { cls := .type "dict", data := .dict #[] }).get? b = some o := fun b o e => Heap.get?_push_of_some _ e
  generalize eS3 : ({ s2 with heap := s2.heap.push { cls := .type "dict", data := .dict #[] } } : Shared) = s3
  generalize eH3 : upd H2 s2.heap.objs.size (.dT []) = H3 at w0
  have I3 : Inv X pins σ H3 s3 := by
    rw [← eS3, ← eH3]
    exact I2.laid (t' := s2.toks) kD (Nat.le_refl _) (dt_empty s2.heap I2.big)
  have hp3 : s3.heap = s2.heap.push { cls := .type "dict", data := .dict #[] } := by rw [← eS3]
  have f3 : ∀ b ∈ fp, FpOk X pins H3 b ∧ b < s3.heap.objs.size := by
    intro b hb
    obtain ⟨o, e, _⟩ := T.obj _ _ st2 b hb
    have lt : b < s2.heap.objs.size := Heap.lt_size e
    obtain ⟨a1, a2⟩ := f2 b hb
    refine ⟨⟨?_, a2⟩, ?_⟩
    · rw [← eH3, upd_ne (Nat.ne_of_lt lt)]
      exact a1
    · rw [hp3, Heap.size_push]
      exact Nat.lt_succ_of_lt lt
  have I4 := block_start I3 ok hN f3
  have g4 := hg s3 H3 s3.heap.objs.size (cellsFrom (s3.heap.objs.size + 1) scope.names (cloFrom X.env.cells scope.names [])) fp
  have t4 := ht s3 H3 s3.heap.objs.size (cellsFrom (s3.heap.objs.size + 1) scope.names (cloFrom X.env.cells scope.names [])) fp
  have k4 := hk s3 H3 s3.heap.objs.size (cellsFrom (s3.heap.objs.size + 1) scope.names (cloFrom X.env.cells scope.names [])) fp
  have v4 := hv s3 H3 s3.heap.objs.size (cellsFrom (s3.heap.objs.size + 1) scope.names (cloFrom X.env.cells scope.names [])) fp
  have eC : (compEnvC scope (cellsFrom (s3.heap.objs.size + 1) scope.names (cloFrom X.env.cells scope.names [])) s3.heap.objs.size X.env).locals = s3.heap.objs.size := rfl
  have st4 : tn 0 (pushCells (s3.heap.push { cls := .type "dict", data := .dict #[] }) scope.names) := T.keep _ _ _ st2 fun b _ o e => pushCells_keeps _ _ _ _ (Heap.get?_push_of_some _ (hp3 ▸ kD b o e))
  have lp := loop_dcT (iter := iter) (pos := pos) (use := none) (Qf := EP X pins σ Q) (C := s3.heap.objs.size) hu hc T g4 t4 k4 v4 hW I4 st4 (fun b hb => (f3 b hb).1.1) w0 fun H' s' I' hq => ?_
  · exact codeAny_compStart_dict lp (T.self X.A 0 _ _ _ st4 lp)
  · -- back in the frame
    have I7 : Inv X pins σ H' s' := I3.call' (ch := fp) I'.os I'.base I'.hok I'.bare fun b hb => by
      obtain ⟨⟨_, a2, _, a4, a5, a6⟩, _⟩ := f3 b hb
      exact ⟨a4, a2, a5, a6⟩
    have nC : H' s3.heap.objs.size = none := I'.free
    obtain ⟨m, hn, _⟩ := I'.loc
    obtain ⟨b0, b1, _, b3, b4, b5⟩ := I3.fpOk (H' := H') (Nat.le_refl _) nC
    refine ⟨m, hn, fun h'' sb => ⟨.ref s2.heap.objs.size, H', ?_, rfl, hq⟩⟩
    exact I7.turned (t' := s'.toks) (fun b o hb e => (sb.2 b hb).trans e) b0 b1 b3 b4 b5
end
end
end DL

namespace DL
open L2 PySem PySem.Spec PyProof.Rows
/-! ## keys, entries -/
def toKey : PyData → Option Key
  | .int i => some (.inl i)
  | .str x => some (.inr x)
  | _ => none
def toKeys : List PyData → Option (List Key)
  | [] => some []
  | d :: ds => (toKey d).bind fun k => (toKeys ds).map (k :: ·)
def toKT : PyData → Option (List Key)
  | .tuple ds => if strsD ds = true then none else toKeys ds
  | _ => none
theorem key_do {K : PySem.W.Frag} {H : Hp} {O : Addr → Prop} {v : V} {d : PyData} {k : Key} (h : Do K H O v d) (e : toKey d = some k) : v = kV k := by
  cases d <;> cases e
  · cases h; rfl
  · cases h; rfl
theorem keys_do {K : PySem.W.Frag} {H : Hp} {O : Addr → Prop} : ∀ {vs : List V} {ds : List PyData} {ks : List Key}, DoAll K H O vs ds → toKeys ds = some ks → vs = ks.map kV
  | _, _, ks, .nil, e => by cases e; rfl
  | _, _, ks, .cons (d := d) (ds := ds) r t, e => by
    have e1 : ((toKey d).bind fun k => (toKeys ds).map (k :: ·)) = some ks := e
    cases e2 : toKey d with
    | none => rw [e2] at e1; cases e1
    | some k =>
      rw [e2] at e1
      have e3 : (toKeys ds).map (k :: ·) = some ks := e1
      cases e4 : toKeys ds with
      | none => rw [e4] at e3; cases e3
      | some ks2 =>
        rw [e4] at e3
        cases e3
        rw [key_do r e2, keys_do t e4]
        rfl
theorem keyT_do {K : PySem.W.Frag} {H : Hp} {O : Addr → Prop} {v : V} {d : PyData} {k : List Key} (h : Do K H O v d) (e : toKT d = some k) : ∃ l, v = .ref l ∧ H l = some (.tup (k.map kV)) := by
  cases d with
  | tuple ds =>
    have e1 : (if strsD ds = true then none else toKeys ds) = some k := e
    by_cases hs : strsD ds = true
    · rw [if_pos hs] at e1; cases e1
    · rw [if_neg hs] at e1
      cases h with
      | tup hx z a =>
        rw [← keys_do a e1]
        exact ⟨_, rfl, z.resolve_right hs⟩
  | _ => cases e
section
variable {κ : Type} [DecidableEq κ]
/-- in its place, or at the end -/
def putE (es : List (κ × PyData)) (k : κ) (d : PyData) : List (κ × PyData) := if k ∈ es.map Prod.fst then es.map fun p => if p.1 = k then (p.1, d) else p else es ++ [(k, d)]
def getE : List (κ × PyData) → κ → Option PyData
  | [], _ => none
  | p :: es, k => if p.1 = k then some p.2 else getE es k
theorem put_any (kvs : List (κ × V)) (k : κ) : (kvs.any fun kv => decide (kv.1 = k)) = true ↔ k ∈ kvs.map Prod.fst := by
  rw [List.any_eq_true, List.mem_map]
  exact ⟨fun ⟨p, hp, e⟩ => ⟨p, hp, of_decide_eq_true e⟩, fun ⟨p, hp, e⟩ => ⟨p, hp, decide_eq_true e⟩⟩
theorem put_do {K : PySem.W.Frag} {H : Hp} {O : Addr → Prop} {k : κ} {v : V} {d : PyData} (hv : Do K H O v d) {kvs : List (κ × V)} {es : List (κ × PyData)} (e : kvs.map Prod.fst = es.map Prod.fst) (h : DoAll K H O (kvs.map Prod.snd) (es.map Prod.snd)) :
    (putK kvs k v).map Prod.fst = (putE es k d).map Prod.fst ∧ DoAll K H O ((putK kvs k v).map Prod.snd) ((putE es k d).map Prod.snd) := by
  unfold putK putE
  by_cases hk : k ∈ es.map Prod.fst
  · rw [if_pos hk, if_pos ((put_any kvs k).mpr (e ▸ hk))]
    clear hk
    induction kvs generalizing es with
    | nil =>
      cases es with
      | nil => exact ⟨rfl, .nil⟩
      | cons q es => cases e
    | cons p kvs ih =>
      cases es with
      | nil => cases e
      | cons q es =>
        rw [List.map_cons, List.map_cons] at e h
        obtain ⟨e1, e2⟩ := List.cons.inj e
        cases h with
        | cons r t =>
          obtain ⟨i1, i2⟩ := ih e2 t
          simp only [List.map_cons]
          by_cases hp : p.1 = k
          · rw [if_pos hp, if_pos (e1 ▸ hp)]
            exact ⟨by rw [i1, e1], .cons hv i2⟩
          · rw [if_neg hp, if_neg (e1 ▸ hp)]
            exact ⟨by rw [i1, e1], .cons r i2⟩
  · rw [if_neg hk, if_neg fun z => hk (e ▸ (put_any kvs k).mp z), List.map_append, List.map_append, List.map_append, List.map_append, e]
    exact ⟨rfl, h.append (.cons hv .nil)⟩
theorem get_do {K : PySem.W.Frag} {H : Hp} {O : Addr → Prop} {k : κ} : ∀ {kvs : List (κ × V)} {es : List (κ × PyData)} {d : PyData}, kvs.map Prod.fst = es.map Prod.fst → DoAll K H O (kvs.map Prod.snd) (es.map Prod.snd) → getE es k = some d → ∃ v, valV kvs k = some v ∧ Do K H O v d
  | [], [], d, _, _, g => by cases g
  | [], q :: es, d, e, _, _ => by cases e
  | p :: kvs, [], d, e, _, _ => by cases e
  | p :: kvs, q :: es, d, e, h, g => by
    rw [List.map_cons, List.map_cons] at e h
    obtain ⟨e1, e2⟩ := List.cons.inj e
    cases h with
    | cons r t =>
      have g1 : (if q.1 = k then some q.2 else getE es k) = some d := g
      by_cases hp : p.1 = k
      · rw [if_pos (e1 ▸ hp)] at g1
        cases g1
        exact ⟨p.2, valV_pos hp, r⟩
      · rw [if_neg (e1 ▸ hp)] at g1
        obtain ⟨v, e3, q3⟩ := get_do e2 t g1
        exact ⟨v, by rw [valV_neg hp]; exact e3, q3⟩
end
/-! ## d[k] -/
def fromKD : List (PyData × PyData) → Option (List (Key × PyData))
  | [] => some []
  | p :: r => (toKey p.1).bind fun k => (fromKD r).map ((k, p.2) :: ·)
def fromTD : List (PyData × PyData) → Option (List (List Key × PyData))
  | [] => some []
  | p :: r => (match p.1 with | .tuple ds => toKeys ds | _ => none).bind fun k => (fromTD r).map ((k, p.2) :: ·)
theorem toKey_keyD (k : Key) : toKey (keyD k) = some k := by cases k <;> rfl
theorem toKeys_keyD : ∀ ks : List Key, toKeys (ks.map keyD) = some ks
  | [] => rfl
  | k :: ks => by
    show ((toKey (keyD k)).bind fun k => (toKeys (ks.map keyD)).map (k :: ·)) = _
    rw [toKey_keyD, toKeys_keyD ks]
    rfl
theorem fromKD_map : ∀ es : List (Key × PyData), fromKD (es.map fun p => (keyD p.1, p.2)) = some es
  | [] => rfl
  | p :: es => by
    show ((toKey (keyD p.1)).bind fun k => (fromKD (es.map fun p => (keyD p.1, p.2))).map ((k, p.2) :: ·)) = _
    rw [toKey_keyD, fromKD_map es]
    rfl
theorem fromTD_map : ∀ es : List (List Key × PyData), fromTD (es.map fun p => (keyTD p.1, p.2)) = some es
  | [] => rfl
  | p :: es => by
    show ((toKeys (p.1.map keyD)).bind fun k => (fromTD (es.map fun p => (keyTD p.1, p.2))).map ((k, p.2) :: ·)) = _
    rw [toKeys_keyD, fromTD_map es]
    rfl
def ixG (d e : PyData) : Option PyData :=
  match d with
  | .dict es => (match toKey e with
    | some k => (fromKD es).bind fun es => getE es k
    | none => (toKT e).bind fun k => (fromTD es).bind fun es => getE es k)
  | _ => ixD d e
section
variable {X : Cx}
theorem ix_dget (hu : X.A.units + 64 < cLine) : IxR X (fun x y H Q => ∃ a v, x = V.ref a ∧ DGet H a y (some v) ∧ Q v H) := by
  intro value slice pins s σ H x y v u Q I rx ry h hs
  obtain ⟨a, z, rfl, g, q⟩ := h
  obtain rfl : v = Value.ref a := rx
  exact tail_any (dict_typeIs I g) slot_dict_getitem.lookup (d_getItem (Nat.lt_of_le_of_lt (by omega) hu) I g ry fun w' s' I' rw' => ⟨z, H, I', rw', q⟩) hs
theorem x_ixG (hu : X.A.units + 64 < cLine) : IxR X (rD2 X.K ixG) := by
  intro value slice pins s σ H x y v u Q I rx ry h hs
  obtain ⟨O, d, e, z, dom, hd, he, hg, q⟩ := h
  cases d with
  | dict es =>
    refine ix_dget hu value slice pins s σ H x y v u Q I rx ry ?_ hs
    have hg2 : (match toKey e with
      | some k => (fromKD es).bind fun es => getE es k
      | none => (toKT e).bind fun k => (fromTD es).bind fun es => getE es k) = some z := hg
    cases hk : toKey e with
    | some k =>
      rw [hk] at hg2
      have hg3 : ((fromKD es).bind fun es => getE es k) = some z := hg2
      have ey := key_do he hk
      subst ey
      cases hd with
      | dcK ee hx n e1 a1 =>
        subst ee
        rw [fromKD_map] at hg3
        obtain ⟨w, e3, p⟩ := get_do e1 a1 hg3
        exact ⟨_, w, rfl, .inl ⟨_, k, .inl hx, rfl, e3.symm⟩, q _ _ (Same.refl _) p⟩
      | @dcT a kvs fs _ ee hx n e1 a1 =>
        subst ee
        cases fs with
        | nil => cases hg3
        | cons f fs => cases hg3
    | none =>
      rw [hk] at hg2
      have hg3 : ((toKT e).bind fun k => (fromTD es).bind fun es => getE es k) = some z := hg2
      cases ht : toKT e with
      | none => rw [ht] at hg3; cases hg3
      | some k =>
        rw [ht] at hg3
        have hg4 : ((fromTD es).bind fun es => getE es k) = some z := hg3
        obtain ⟨l, ey, hl⟩ := keyT_do he ht
        subst ey
        cases hd with
        | dcT ee hx n e1 a1 =>
          subst ee
          rw [fromTD_map] at hg4
          obtain ⟨w, e3, p⟩ := get_do e1 a1 hg4
          exact ⟨_, w, rfl, .inr ⟨_, k, l, .inl hx, rfl, hl, e3.symm⟩, q _ _ (Same.refl _) p⟩
        | @dcK a kvs fs _ ee hx n e1 a1 =>
          subst ee
          cases fs with
          | nil => cases hg4
          | cons f fs =>
            obtain ⟨f1, f2⟩ := f
            cases f1 <;> cases hg4
  | _ => exact x_ix value slice pins s σ H x y v u Q I rx ry ⟨O, _, e, z, dom, hd, he, hg, q⟩ hs
end
section
variable {X : Cx} {c : Cn} {W : XW} {a b e : Expr} {fa fb f : EM} {pos : Pos}
theorem dIxG (hu : X.A.units + 64 < cLine) (ha : PE X a (tD (dc X c W) fa)) (hb : PE X b (tD (dc X c W) fb)) (hs : PlainIx b := by exact fun _ _ => rfl) : PE X (.Subscript a b pos) (tD (dc X c W) (eBin ixG fa fb)) := PE.imp (pe_ix (x_ixG hu) ha hb hs) fun _ _ _ => red_bin
end
/-! ## a written dict of texts -/
def tabGet : List (Str × Str) → Str → Option Str
  | [], _ => none
  | p :: t, x => if p.1 = x then some p.2 else tabGet t x
def eKd (t : List (Str × Str)) (f : EM) : EM := fun r w => (f r w).bind fun d w1 => match d with
  | .str x => (match tabGet t x with
    | some y => .ok (.str y) w1
    | none => .bad)
  | _ => .bad
theorem tabGet_mem : ∀ {t : List (Str × Str)} {x y : Str}, tabGet t x = some y → (x, y) ∈ t
  | [], _, _, e => by cases e
  | p :: t, x, y, e => by
    have e1 : (if p.1 = x then some p.2 else tabGet t x) = some y := e
    by_cases h : p.1 = x
    · rw [if_pos h] at e1
      cases e1
      subst h
      exact List.mem_cons_self ..
    · rw [if_neg h] at e1
      exact List.mem_cons_of_mem _ (tabGet_mem e1)
theorem red_kd {C : Dc} {w0 : World} {σ : L2.St} {H : Hp} {Q : VK} {t : List (Str × Str)} {f : EM} {a : Addr} (ht : ∀ p ∈ t, KDct C.K w0 a p.1 (.str p.2)) (h : tD C (eKd t f) σ H Q) : tOp (rIxD C.K w0) (tC (.ref a)) (tD C f) σ H Q := by
  obtain ⟨P, ow, r, w, R, h⟩ := h
  refine ⟨P, ow, r, w, R, gE.bind h fun d w1 v H1 _ k1 R1 p1 h1 => ?_⟩
  cases d with
  | str x =>
    have h2 : gE C (fD C) (match tabGet t x with
      | some y => .ok (.str y) w1
      | none => .bad) P ow r σ H1 Q := h1
    cases e : tabGet t x with
    | none => rw [e] at h2; exact h2.elim
    | some y =>
      rw [e] at h2
      cases p1
      exact ⟨a, x, .str y, rfl, rfl, ht _ (tabGet_mem e), h2 _ H1 .refl R1 (.str y)⟩
  | _ => exact h1.elim
section
variable {X : Cx} {c : Cn} {W : XW} {e : Expr} {f : EM} {pos p : Pos} {x : Str}
theorem dKd {t : List (Str × Str)} {a : Addr} (hg : Gl X x) (hm : X.mg x = some (.ref a)) (ht : ∀ p ∈ t, KDct X.K X.w a p.1 (.str p.2)) (he : PE X e (tD (dc X c W) f)) (hs : PlainIx e := by exact fun _ _ => rfl) (hd : (x == ("__debug__" : Str)) = false := by decide) :
    PE X (.Subscript (.Name x p) e pos) (tD (dc X c W) (eKd t f)) := PE.imp (pe_ix ix_kdict (pe_glob (v := .ref a) hg hm rfl hd) he hs) fun _ _ _ => red_kd (C := dc X c W) ht
end
end DL

namespace DL
open L2 PySem PySem.Spec PyProof.Rows
/-! ## {k: v for ..}, tuples of ints and texts as keys -/
def cmpDT (p : Pat) (t : TM) (fk fv : EM) (r : List SV) : List PyData → DS → List (List Key × PyData) → Option (List (List Key × PyData) × DS)
  | [], w, es => some (es, w)
  | d :: ds, w, es =>
    (setP p d r).bind fun r1 => (toOpt (t r1 w)).bind fun bw => if bw.1 = true then
      (toOpt (fk r1 bw.2)).bind fun kw => (toOpt (fv r1 kw.2)).bind fun vw => (toKT kw.1).bind fun k => if es.length < szL then cmpDT p t fk fv r ds vw.2 (putE es k vw.1) else none
    else cmpDT p t fk fv r ds bw.2 es
def eDictT (vs : List Nat) (fi : IM) (p : Pat) (t : TM) (fk fv : EM) : EM := fun r w => (fi r w).bind fun ds w1 =>
  match cmpDT p t fk fv (wipeR r vs) ds w1 [] with
  | some (es, w2) => .ok (.dict (es.map fun p => (keyTD p.1, p.2))) w2
  | none => .bad
section
variable {C : Dc} {σ : L2.St} {H : Hp} {Q : VK}
structure DictAt (C : Dc) (ow : Nat → Option Addr) (D : Addr) (H1 H : Hp) (es : List (List Key × PyData)) (w : DS) : Prop where
  acc : ∃ kvs, H D = some (.dT kvs) ∧ kvs.map Prod.fst = es.map Prod.fst ∧ DoAll C.K H (fun b => Ow C.c.O0 ow b ∨ b = D) (kvs.map Prod.snd) (es.map Prod.snd)
  keep : Keep (SAd C.c.sa) H1 H
  st : StOk C.c.sa w H
theorem DictAt.step {P : List (V × PyData)} {ow : Nat → Option Addr} {r : List SV} {w1 w w' : DS} {σ : L2.St} {H1 H H2 : Hp} {D : Addr} {es : List (List Key × PyData)} (R : C.Rl P ow r w1 σ H1) (hD : H1 D = none) (a : DictAt C ow D H1 H es w)
    (k : Keep (SAd C.c.sa) H H2) (st : StOk C.c.sa w' H2) : DictAt C ow D H1 H2 es w' := by
  obtain ⟨kvs, hx, e, hd⟩ := a.acc
  exact ⟨⟨kvs, k.same _ _ hx fun z => R.fresh hD (R.subO D z), e, hd.keep k fun b hb => .inl (R.subO b hb)⟩, a.keep.trans k, st⟩
theorem DictAt.put {P : List (V × PyData)} {ow : Nat → Option Addr} {r : List SV} {w1 w : DS} {σ : L2.St} {H1 H : Hp} {D : Addr} {es : List (List Key × PyData)} {k : List Key} {v : V} {d : PyData} (R : C.Rl P ow r w1 σ H1) (hD : H1 D = none) (a : DictAt C ow D H1 H es w)
    (hv : Do C.K H (fun b => Ow C.c.O0 ow b ∨ b = D) v d) (hl : es.length < szL) :
    ∃ kvs, H D = some (.dT kvs) ∧ kvs.length < sizeLine ∧ DictAt C ow D H1 (upd H D (.dT (putK kvs k v))) (putE es k d) w := by
  obtain ⟨kvs, hx, e, hd⟩ := a.acc
  have nsa : ¬ SAd C.c.sa D := fun z => R.fresh hD (R.subO D z)
  have kD : Keep (fun b => b = D) H (upd H D (.dT (putK kvs k v))) := ⟨fun b o q n => by rw [upd_ne n]; exact q, fun b zs q => by
    have n : b ≠ D := fun z => by rw [z, hx] at q; cases q
    rw [upd_ne n]; exact q, fun b o u q => by
    have n : b ≠ D := fun z => by rw [z, hx] at q; cases q
    rw [upd_ne n]; exact q, fun b u q => by
    have n : b ≠ D := fun z => by rw [z, hx] at q; cases q
    rw [upd_ne n]; exact q⟩
  have ll : kvs.length = es.length := by
    have z := congrArg List.length e
    rwa [List.length_map, List.length_map] at z
  obtain ⟨q1, q2⟩ := put_do (k := k) hv e hd
  refine ⟨kvs, hx, Nat.lt_of_lt_of_le (ll ▸ hl) szL_le, ⟨_, upd_same, q1, q2.keep kD fun b hb => .inr hb⟩, ?_, a.st.keep kD fun b hb z => nsa (z ▸ hb)⟩
  exact ⟨fun b o q n => by
    rw [upd_ne (fun z => by rw [z, hD] at q; cases q)]
    exact a.keep.same b o q n, fun b zs q => kD.tup _ _ (a.keep.tup _ _ q), fun b o u q => kD.frz _ _ _ (a.keep.frz _ _ _ q), fun b u q => kD.ext _ _ (a.keep.ext _ _ q)⟩
theorem red_dictT {vs : List Nat} {fi : IM} {p : Pat} {t : TM} {fk fv : EM} (hp : ∀ i ∈ slotsP p, i ∈ vs) (h : tD C (eDictT vs fi p t fk fv) σ H Q) :
    tDcT (tI C fi) (fun v σ H Q => ∃ c, tP ⟨C.mg, C.K, c, WF⟩ p v σ H Q) (fun σ H Q => ∃ c, tT ⟨C.mg, C.K, c, WF⟩ t σ H Q) (fun σ H Q => ∃ c, tD ⟨C.mg, C.K, c, WF⟩ fk σ H Q) (fun σ H Q => ∃ c, tD ⟨C.mg, C.K, c, WF⟩ fv σ H Q) vs σ H Q := by
  obtain ⟨P, ow, r, w, R, h⟩ := h
  refine ⟨P, ow, r, w, R, gE.bind h fun ds w1 jp H1 _ k1 R1 pj h1 => ?_⟩
  intro D hD
  obtain ⟨hpin, wk⟩ := pj
  obtain ⟨tot, wF, etot, h2⟩ : ∃ tot wF, cmpDT p t fk fv (wipeR r vs) ds w1 [] = some (tot, wF) ∧ gE C (fD C) (.ok (.dict (tot.map fun p => (keyTD p.1, p.2))) wF) P ow r σ H1 Q := by
    cases e : cmpDT p t fk fv (wipeR r vs) ds w1 [] with
    | none => rw [e] at h1; exact h1.elim
    | some z => rw [e] at h1; exact ⟨z.1, z.2, rfl, h1⟩
  have nsa : ¬ SAd C.c.sa D := fun z => R1.fresh hD (R1.subO D z)
  refine ⟨fun i m H => m = ds.length - i ∧ i ≤ ds.length ∧ ∃ es w', DictAt C ow D H1 H es w' ∧ cmpDT p t fk fv (wipeR r vs) (ds.drop i) w' es = some (tot, wF),
    ⟨ds.length, by simp, Nat.zero_le _, [], w1, ⟨⟨[], upd_same, rfl, .nil⟩, .new hD, R1.st.keep (M := fun _ => False) (.new hD) fun _ _ z => z⟩, by rw [List.drop_zero]; exact etot⟩, ?_⟩
  rintro i m H ⟨rfl, hile, es, w', a, erest⟩
  have domH : ∀ b, (Ow C.c.O0 ow b ∨ b = D) → ∃ o, H b = some o := fun b hb => by
    rcases hb with hb | hb
    · exact (R1.after a.keep a.st).dom' b hb
    · rw [hb]; exact let ⟨xs, hx, _⟩ := a.acc; ⟨_, hx⟩
  have pinH : Pinned C.K H (fun b => Ow C.c.O0 ow b ∨ b = D) jp.2 := fun q hq => ((hpin q hq).grow hD).keep a.keep fun b hb => .inl (R1.subO b hb)
  by_cases hi : i < ds.length
  · refine .inr ⟨wk.goes i H hi ⟨_, pinH⟩, fun H => ∃ es w', DictAt C ow D H1 H es w' ∧ cmpDT p t fk fv (wipeR r vs) (ds.drop (i + 1)) w' es = some (tot, wF), fun H' hN => ⟨ds.length - (i + 1), by omega, rfl, hi, hN⟩, fun x H' y => ?_⟩
    obtain ⟨sm, d, ed, pd⟩ := wk.yields i H x H' hi ⟨_, pinH⟩ y _ domH pinH
    have ecs : ds.drop i = d :: ds.drop (i + 1) := by
      rw [← List.getElem_cons_drop hi]
      have : ds[i] = d := by
        rw [List.getElem?_eq_getElem hi] at ed
        exact Option.some.inj ed
      rw [this]
    rw [ecs] at erest
    have er0 : ((setP p d (wipeR r vs)).bind fun r1 => (toOpt (t r1 w')).bind fun bw => if bw.1 = true then
      (toOpt (fk r1 bw.2)).bind fun kw => (toOpt (fv r1 kw.2)).bind fun vw => (toKT kw.1).bind fun k => if es.length < szL then cmpDT p t fk fv (wipeR r vs) (ds.drop (i + 1)) vw.2 (putE es k vw.1) else none
      else cmpDT p t fk fv (wipeR r vs) (ds.drop (i + 1)) bw.2 es) = some (tot, wF) := erest
    have a' : DictAt C ow D H1 H' es w' := a.step R1 hD (.of_same sm) (a.st.keep (M := fun _ => False) (.of_same sm) fun _ _ z => z)
    have hDd' : ∃ o, H' D = some o := let ⟨xs, hx, _⟩ := a'.acc; ⟨_, hx⟩
    have Rb := R1.blk hD a'.keep hDd' a'.st vs rfl
    cases e1 : setP p d (wipeR r vs) with
    | none => rw [e1] at er0; cases er0
    | some r1 =>
      rw [e1] at er0
      refine ⟨blkC C.c ow D H', [], _, _, w', d, r1, Rb, pd.weak (fun b hb => by
        rcases hb with hb | ⟨_, hb⟩
        · exact hb
        · cases hb), e1, fun σ2 ow2 R2 sa sub => ⟨wipe_same sa hp, ?_⟩⟩
      have er1 : ((toOpt (t r1 w')).bind fun bw => if bw.1 = true then
        (toOpt (fk r1 bw.2)).bind fun kw => (toOpt (fv r1 kw.2)).bind fun vw => (toKT kw.1).bind fun k => if es.length < szL then cmpDT p t fk fv (wipeR r vs) (ds.drop (i + 1)) vw.2 (putE es k vw.1) else none
        else cmpDT p t fk fv (wipeR r vs) (ds.drop (i + 1)) bw.2 es) = some (tot, wF) := er0
      cases e2 : toOpt (t r1 w') with
      | none => rw [e2] at er1; cases er1
      | some bw =>
        obtain ⟨b, w2⟩ := bw
        rw [e2] at er1
        refine ⟨blkC C.c ow D H', [], ow2, r1, w', R2, ?_⟩
        rw [toOpt_some e2]
        intro b' H3 k3 R3 eb
        have eb' : b = b' := eb
        subst eb'
        refine ⟨fun hb => ?_, fun hb => ?_⟩
        · subst hb
          exact ⟨es, w2, a'.step R1 hD k3 R3.st, er1⟩
        · subst hb
          have er2 : ((toOpt (fk r1 w2)).bind fun kw => (toOpt (fv r1 kw.2)).bind fun vw => (toKT kw.1).bind fun k => if es.length < szL then cmpDT p t fk fv (wipeR r vs) (ds.drop (i + 1)) vw.2 (putE es k vw.1) else none) = some (tot, wF) := er1
          cases e3 : toOpt (fk r1 w2) with
          | none => rw [e3] at er2; cases er2
          | some kw =>
            obtain ⟨kd, w3⟩ := kw
            rw [e3] at er2
            have er3 : ((toOpt (fv r1 w3)).bind fun vw => (toKT kd).bind fun k => if es.length < szL then cmpDT p t fk fv (wipeR r vs) (ds.drop (i + 1)) vw.2 (putE es k vw.1) else none) = some (tot, wF) := er2
            cases e4 : toOpt (fv r1 w3) with
            | none => rw [e4] at er3; cases er3
            | some vw =>
              obtain ⟨z, w4⟩ := vw
              rw [e4] at er3
              have er4 : ((toKT kd).bind fun k => if es.length < szL then cmpDT p t fk fv (wipeR r vs) (ds.drop (i + 1)) w4 (putE es k z) else none) = some (tot, wF) := er3
              cases e5 : toKT kd with
              | none => rw [e5] at er4; cases er4
              | some k =>
                rw [e5] at er4
                have er5 : (if es.length < szL then cmpDT p t fk fv (wipeR r vs) (ds.drop (i + 1)) w4 (putE es k z) else none) = some (tot, wF) := er4
                by_cases hl : es.length < szL
                · rw [if_pos hl] at er5
                  refine ⟨blkC C.c ow D H', [], ow2, r1, w2, R3, ?_⟩
                  rw [toOpt_some e3]
                  intro y H4 k4 R4 py
                  refine ⟨blkC C.c ow D H', [], ow2, r1, w3, R4, ?_⟩
                  rw [toOpt_some e4]
                  intro v H5 k5 R5 pv
                  obtain ⟨l, ey, hk⟩ := keyT_do py e5
                  obtain ⟨kvs, hx, few, a2⟩ := (a'.step R1 hD ((k3.trans k4).trans k5) R5.st).put (k := k) R1 hD (pv.weak fun b hb => .inl hb) hl
                  exact ⟨l, k, kvs, ey, k5.tup _ _ hk, hx, few, _, w4, a2, er5⟩
                · rw [if_neg hl] at er5; cases er5
  · have ei : i = ds.length := by omega
    subst ei
    rw [List.drop_length] at erest
    unfold cmpDT at erest
    cases erest
    obtain ⟨kvs, hx, e, hd⟩ := a.acc
    exact .inl ⟨wk.stops H ⟨_, pinH⟩, h2 (.ref D) H a.keep (R1.after a.keep a.st) (.dcT rfl hx (R1.fresh hD) e (hd.weak fun b hb => .inl hb))⟩
end
section
variable {X : Cx} {c : Cn} {W : XW} {pos : Pos}
theorem dDictT {kx vx tg iter : Expr} {ifs : List Expr} {scope : Scope} {own : List (Str × Nat)} {fi : IM} {p : Pat} {t : TM} {fk fv : EM} (hu : X.A.units + 64 < cLine) (hc : X.calm = true) (hN : X.N.Nodup) (ok : BlkOk X.N X.env.scope scope own) (hi : PI X tg iter (tI (dc X c W) fi)) (hp : ∀ i ∈ slotsP p, i ∈ own.map (·.2))
    (hg : ∀ (s : Shared) (H : Hp) (C : Addr) (cl : List (Str × Addr)) (fp : List Addr) (c : Cn), PG (X.blk s H scope (compEnvC scope cl C X.env) fp) tg (tP (dc (X.blk s H scope (compEnvC scope cl C X.env) fp) c WF) p))
    (ht : ∀ (s : Shared) (H : Hp) (C : Addr) (cl : List (Str × Addr)) (fp : List Addr) (c : Cn), PTs (X.blk s H scope (compEnvC scope cl C X.env) fp) ifs (tT (dc (X.blk s H scope (compEnvC scope cl C X.env) fp) c WF) t))
    (hk : ∀ (s : Shared) (H : Hp) (C : Addr) (cl : List (Str × Addr)) (fp : List Addr) (c : Cn), PE (X.blk s H scope (compEnvC scope cl C X.env) fp) kx (tD (dc (X.blk s H scope (compEnvC scope cl C X.env) fp) c WF) fk))
    (hv : ∀ (s : Shared) (H : Hp) (C : Addr) (cl : List (Str × Addr)) (fp : List Addr) (c : Cn), PE (X.blk s H scope (compEnvC scope cl C X.env) fp) vx (tD (dc (X.blk s H scope (compEnvC scope cl C X.env) fp) c WF) fv))
    (hs : ∀ x, foldedSetIterable iter X.env x = pure x := by intro _; rfl) :
    PE X (.DictComp kx vx [⟨tg, iter, ifs, 0⟩] scope pos) (tD (dc X c W) (eDictT (own.map (·.2)) fi p t fk fv)) :=
  PE.imp (pe_dcT hu hc hN hi ok (fun s H C cl fp => pg_ex (hg s H C cl fp)) (fun s H C cl fp => pts_ex (ht s H C cl fp)) (fun s H C cl fp => pe_ex (hk s H C cl fp)) (fun s H C cl fp => pe_ex (hv s H C cl fp)) hs) fun _ _ _ => red_dictT hp
end
end DL

namespace DL
open L2 PySem PySem.Spec PyProof.Rows
/-! ## isinstance(x, T), T a built-in type -/
def isiB (T n : String) : Bool := decide (n = T) || (decide (n = "bool") && decide (T = "int"))
def eIsi (T : String) (f : EM) : EM := fun r w => (f r w).bind fun d w1 => .ok (.bool (isiB T (tyN d))) w1
def tyNs : List String := ["NoneType", "bool", "int", "str", "list", "tuple", "dict"]
theorem tyN_mem (d : PyData) : tyN d ∈ tyNs := by cases d <;> simp [tyN, tyNs]
theorem tyX {K : PySem.W.Frag} {H : Hp} {O : Addr → Prop} {v : V} {d : PyData} (h : Do K H O v d) : TyX K H v (.type (tyN d)) := by
  cases h with
  | non => exact .base .non
  | bl b => exact .base (.bl b)
  | int i => exact .base (.int i)
  | str x => exact .base (.str x)
  | lst hx _ _ => exact .base (.lst hx)
  | tup hx _ _ =>
    rcases hx with (hx | ⟨o, hx⟩) | ⟨o, its, n, hk, hc, _⟩
    · exact .base (.tup hx)
    · exact .fTuple hx
    · exact .kTuple hk hc
  | dcK _ hx _ _ _ => exact .base (.dK hx)
  | dcT _ hx _ _ _ => exact .base (.dT hx)
theorem red_isi {C : Dc} {σ : L2.St} {H : Hp} {Q : VK} {T : String} {f : EM} (hT : ∀ n ∈ tyNs, kitB n T = some (isiB T n)) (h : tD C (eIsi T f) σ H Q) : tCB (rIsi C.K) (tCons (tD C f) (tCons (tC (.ty T)) tNil)) σ H Q := by
  obtain ⟨P, ow, r, w, R, h⟩ := h
  refine ⟨P, ow, r, w, R, gE.bind h fun d w1 v H1 _ k1 R1 p1 h1 => ?_⟩
  exact ⟨v, _, .type (tyN d), .type T, isiB T (tyN d), rfl, .ty T, tyX p1, kit_ty (hT _ (tyN_mem d)), h1 _ H1 .refl R1 (.bl _)⟩
section
variable {X : Cx} {c : Cn} {W : XW} {a : Expr} {f : EM} {pos p p1 : Pos}
theorem dIsi {x y : Str} {T : String} (hT : ∀ n ∈ tyNs, kitB n T = some (isiB T n)) (hg : Gl X x) (hm : X.mg x = none) (hv : bootBuiltins x = some (.builtin "isinstance")) (hn : x ≠ "__name__") (hdb : (x == ("__debug__" : Str)) = false) (hg2 : Gl X y) (hm2 : X.mg y = none) (hv2 : bootBuiltins y = some (.type T)) (hn2 : y ≠ "__name__") (hdb2 : (y == ("__debug__" : Str)) = false) (ha : PE X a (tD (dc X c W) f))
    (hs : starEach [a, .Name y p1] X.env = (false, eval a X.env) :: starEach [.Name y p1] X.env := by rfl) (hs2 : starEach [.Name y p1] X.env = (false, eval (.Name y p1) X.env) :: starEach [] X.env := by rfl) (hpl : (backTo pos (starEach [.Name y p1] X.env)).any (·.1) = false := by rfl) :
    PE X (.Call (.Name x p) [a, .Name y p1] [] pos) (tD (dc X c W) (eIsi T f)) :=
  PE.imp (pe_callB call_isi hg hm hv (pa_cons ha (pa_cons (pe_bltn (v := .ty T) hg2 hm2 hv2 rfl hn2 hdb2) pa_nil hs2) hs) hn hdb hs hpl) fun _ _ _ => red_isi hT
end
/-! ## all(xs), any(xs) of a list of bools -/
def toBls : List PyData → Option (List Bool)
  | [] => some []
  | .bool b :: r => (toBls r).map (b :: ·)
  | _ :: _ => none
def allD : List PyData → Option PyData
  | [.list ds] => (toBls ds).map fun bs => .bool (bs.all id)
  | _ => none
def anyD : List PyData → Option PyData
  | [.list ds] => (toBls ds).map fun bs => .bool (bs.any id)
  | _ => none
theorem toBls_do {K : PySem.W.Frag} {H : Hp} {O : Addr → Prop} : ∀ {xs : List V} {ds : List PyData} {bs : List Bool}, DoAll K H O xs ds → toBls ds = some bs → xs = bs.map V.bl
  | _, [], bs, .nil, e => by cases e; rfl
  | _, d :: ds, bs, .cons h t, e => by
    cases d with
    | bool b =>
      have e1 : (toBls ds).map (b :: ·) = some bs := e
      cases e2 : toBls ds with
      | none => rw [e2] at e1; cases e1
      | some cs =>
        rw [e2] at e1
        cases e1
        cases h
        rw [toBls_do t e2]
        rfl
    | _ => cases e
section
variable {X : Cx}
theorem c_all (hc : X.calm = true) : CallR X (.builtin "all") (rDs X.K allD) := by
  refine data_call (cr_all hc) fun xs H Q ds z O dom hd hg q => ?_
  match ds, hg, hd with
  | [.list ys], hg, hd =>
    obtain ⟨v, rfl, p⟩ := one_do hd
    simp only [allD] at hg
    cases e : toBls ys with
    | none => rw [e] at hg; cases hg
    | some bs =>
      rw [e] at hg
      cases hg
      cases p with
      | lst hx n ha =>
        have z := toBls_do ha e
        subst z
        exact ⟨_, bs, rfl, SqL.of hx, q _ _ (Same.refl _) (.bl _)⟩
theorem c_any (hc : X.calm = true) : CallR X (.builtin "any") (rDs X.K anyD) := by
  refine data_call (cr_any hc) fun xs H Q ds z O dom hd hg q => ?_
  match ds, hg, hd with
  | [.list ys], hg, hd =>
    obtain ⟨v, rfl, p⟩ := one_do hd
    simp only [anyD] at hg
    cases e : toBls ys with
    | none => rw [e] at hg; cases hg
    | some bs =>
      rw [e] at hg
      cases hg
      cases p with
      | lst hx n ha =>
        have z := toBls_do ha e
        subst z
        exact ⟨_, bs, rfl, SqL.of hx, q _ _ (Same.refl _) (.bl _)⟩
def absD : List PyData → Option PyData
  | [.int i] => some (.int (if i < 0 then -i else i))
  | _ => none
theorem c_abs : CallR X (.builtin "abs") (rDs X.K absD) := by
  refine data_call call_abs fun xs H Q ds z O dom hd hg q => ?_
  match ds, hg, hd with
  | [.int i], hg, hd =>
    obtain ⟨v, rfl, p⟩ := one_do hd
    simp only [absD] at hg
    cases hg; cases p
    exact ⟨i, rfl, q _ _ (Same.refl _) (.int _)⟩
def xorD : PyData → PyData → Option PyData
  | .int a, .int b => some (.int (Builtin.bitXor a b))
  | _, _ => none
theorem o_xor : OpR X (binaryOp .BitXor) (rD2 X.K xorD) := by
  refine two_ints op_xor fun x y H Q d e z O dom hd he hg q => ?_
  cases d <;> cases e <;> (unfold xorD at hg; cases hg)
  cases hd; cases he
  exact ⟨_, _, rfl, rfl, q _ _ (Same.refl _) (.int _)⟩
end
end DL

namespace DL
open L2 PySem PySem.Spec PyProof.Rows
/-! ## sorted(xs), xs a list of pairs of small ints -/
def sortPD : List PyData → Option PyData
  | [.list ds] => (toPr ds).bind fun ps => if ps.length < 64 ∧ ps.all small = true then some (.list ((isort (ps.map prC)).map prD)) else none
  | _ => none
section
variable {X : Cx}
theorem pick_pair : ∀ {xs : List V} {ds : List PyData} {ps : List (Int × Int)} {K : PySem.W.Frag} {H : Hp} {O : Addr → Prop}, DoAll K H O xs ds → toPr ds = some ps → ps.all small = true → ∀ x ∈ xs, ∃ p ∈ ps, ∃ t, x = V.ref t ∧ H t = some (.tup [.int p.1, .int p.2]) := by
  intro xs ds ps K H O hd e hs x hx
  obtain ⟨ks, h1, h2, h3⟩ := prs_of hd e
  rw [h1] at hx
  obtain ⟨q, hq, rfl⟩ := List.mem_map.mp hx
  have z : q.2 ∈ ps.map fun p => [p.1, p.2] := by rw [← h2]; exact List.mem_map_of_mem hq
  obtain ⟨p, hp, e2⟩ := List.mem_map.mp z
  refine ⟨p, hp, q.1, rfl, ?_⟩
  have r := h3 q hq
  rw [← e2] at r
  exact r
theorem c_sortP : CallR X (.builtin "sorted") (rDs X.K sortPD) := by
  refine data_call (cr_sortT (d := 2) (B := 64) (by decide)) fun xs H Q ds z O dom hd hg q => ?_
  match ds, hg, hd with
  | [.list ys], hg, hd =>
    obtain ⟨v, rfl, p⟩ := one_do hd
    have hg1 : ((toPr ys).bind fun ps => if ps.length < 64 ∧ ps.all small = true then some (PyData.list ((isort (ps.map prC)).map prD)) else none) = some z := hg
    cases e : toPr ys with
    | none => rw [e] at hg1; cases hg1
    | some ps =>
      rw [e] at hg1
      have hg2 : (if ps.length < 64 ∧ ps.all small = true then some (PyData.list ((isort (ps.map prC)).map prD)) else none) = some z := hg1
      by_cases hc : ps.length < 64 ∧ ps.all small = true
      · rw [if_pos hc] at hg2
        cases hg2
        cases p with
        | @lst a xs _ hx n ha =>
          have pk := pick_pair ha e hc.2
          obtain ⟨ks, k1, k2, k3⟩ := prs_of ha e
          have lks : xs.length = ps.length := by
            have z := congrArg List.length k2
            rw [List.length_map, List.length_map] at z
            rw [k1, List.length_map]
            exact z
          refine ⟨a, xs, rfl, SqL.of hx, by omega, fun x hx2 => ?_, fun zs l pm pw hl => ?_⟩
          · obtain ⟨p, hp, t, ex, et⟩ := pk x hx2
            have s := of_decide_eq_true (List.all_eq_true.mp hc.2 p hp)
            refine ⟨[p.1, p.2], ⟨t, ex, SqT.of et⟩, rfl, fun y hy => ?_⟩
            simp only [List.mem_cons, List.not_mem_nil, or_false] at hy
            rcases hy with rfl | rfl
            · exact ⟨s.1, s.2.1⟩
            · exact ⟨s.2.2.1, s.2.2.2⟩
          · -- each of zs with its code
            have inz : ∀ x ∈ zs, x ∈ xs := fun x hx2 => pm.mem_iff.mp hx2
            have hcode : ∃ cd : V → Int, ∀ x ∈ xs, ∃ p ∈ ps, cd x = prC p ∧ ∃ t, x = V.ref t ∧ H t = some (.tup [.int p.1, .int p.2]) := by
              refine ⟨fun x => match x with
                | .ref t => (match H t with
                  | some (.tup [.int i, .int j]) => i * 64 + j
                  | _ => 0)
                | _ => 0, fun x hx2 => ?_⟩
              obtain ⟨p, hp, t, ex, et⟩ := pk x hx2
              refine ⟨p, hp, ?_, t, ex, et⟩
              subst ex
              simp only [et]
              rfl
            obtain ⟨cd, hcd⟩ := hcode
            have e1 : xs.map cd = ps.map prC := by
              rw [k1, List.map_map]
              have hk : ∀ q ∈ ks, (cd ∘ fun p => V.ref p.1) q = (match q.2 with | [i, j] => prC (i, j) | _ => 0) := fun q hq => by
                obtain ⟨p, hp, e3, t, ex, et⟩ := hcd (.ref q.1) (by rw [k1]; exact List.mem_map_of_mem (f := fun p : Addr × List Int => V.ref p.1) hq)
                cases ex
                have r := k3 q hq
                rw [et] at r
                show cd (.ref q.1) = _
                rw [e3]
                have r2 : [V.int p.1, V.int p.2] = q.2.map V.int := by injection r with r; injection r with r
                match h : q.2, r2 with
                | [i, j], r2 =>
                  injection r2 with a1 a2
                  injection a2 with a2 _
                  injection a1 with a1
                  injection a2 with a2
                  show prC p = prC (i, j)
                  rw [← a1, ← a2]
              rw [List.map_congr_left hk]
              have e4 : (ks.map (·.2)).map (fun l => (match l with | [i, j] => prC (i, j) | _ => 0 : Int)) = (ps.map fun p => [p.1, p.2]).map (fun l => (match l with | [i, j] => prC (i, j) | _ => 0 : Int)) := by rw [k2]
              rw [List.map_map, List.map_map] at e4
              exact e4
            have e2 : zs.map cd = isort (ps.map prC) := by
              refine sorted_unique ?_ (List.pairwise_map.mpr ?_) (isort_sorted _)
              · rw [← e1]
                exact (pm.map cd).trans (isort_perm _).symm
              · refine pw.imp_of_mem fun {x y} hx2 hy2 h => ?_
                obtain ⟨p, hp, e5, t, ex, et⟩ := hcd x (inz x hx2)
                obtain ⟨p', hp', e5', t', ex', et'⟩ := hcd y (inz y hy2)
                rw [e5, e5']
                have := h [p.1, p.2] [p'.1, p'.2] ⟨t, ex, SqT.of et⟩ ⟨t', ex', SqT.of et'⟩
                rw [code_pair, code_pair] at this
                exact this
            refine q _ _ (same_new hl) (do_new_lst dom hl ?_)
            rw [← e2, List.map_map]
            have hz : ∀ x ∈ zs, Do X.K H O x ((prD ∘ cd) x) := fun x hx2 => by
              obtain ⟨p, hp, e5, t, ex, et⟩ := hcd x (inz x hx2)
              have s := small_code (List.all_eq_true.mp hc.2 p hp)
              show Do X.K H O x (prD (cd x))
              rw [e5]
              unfold prD
              rw [s.1, s.2, ex]
              exact .tupN et (.cons (.int _) (.cons (.int _) .nil))
            have z := DoAll.of_map (f := id) (g := prD ∘ cd) zs hz
            rwa [List.map_id] at z
      · rw [if_neg hc] at hg2; cases hg2
end
/-! ## truth of any plain data -/
def truB : PyData → Option Bool
  | .none => some false
  | .bool b => some b
  | .int i => some (i != 0)
  | .str x => if x.length ≤ szL then some ((x.length : Int) != 0) else none
  | .list ds => some (!ds.isEmpty)
  | .tuple ds => some (!ds.isEmpty)
  | .dict _ => none
def isG (f : EM) : TM := fun r w => (f r w).bind fun d w1 =>
  match truB d with
  | some b => .ok b w1
  | none => .bad
theorem all_empty {K : PySem.W.Frag} {H : Hp} {O : Addr → Prop} {xs : List V} {ds : List PyData} (h : DoAll K H O xs ds) : ds.isEmpty = xs.isEmpty := by cases h <;> rfl
theorem tru_do {K : PySem.W.Frag} {H : Hp} {O : Addr → Prop} {v : V} {d : PyData} {b : Bool} (h : Do K H O v d) (e : truB d = some b) : TruV K v H b := by
  cases h with
  | non => cases e; rfl
  | bl c => cases e; rfl
  | int i => cases e; rfl
  | str x =>
    have e1 : (if x.length ≤ szL then some ((x.length : Int) != 0) else none) = some b := e
    by_cases hl : x.length ≤ szL
    · rw [if_pos hl] at e1
      cases e1
      exact ⟨Nat.le_trans hl szL_le, rfl⟩
    · rw [if_neg hl] at e1; cases e1
  | lst hx _ ha =>
    cases e
    exact .inl ⟨_, SqL.of hx, by rw [all_empty ha]⟩
  | tup hx _ ha =>
    cases e
    exact .inr (.inl ⟨_, hx, by rw [all_empty ha]⟩)
  | dcK _ _ _ _ _ => cases e
  | dcT _ _ _ _ _ => cases e
theorem red_isG {C : Dc} {f : EM} {σ : L2.St} {H : Hp} {Q : Bool → Hp → Prop} (h : tT C (isG f) σ H Q) : tTru C.K (tD C f) σ H Q := by
  obtain ⟨P, ow, r, w, R, h⟩ := h
  refine ⟨P, ow, r, w, R, gE.bind h fun d w1 v H1 _ k1 R1 p1 h1 => ?_⟩
  cases e : truB d with
  | none => rw [e] at h1; exact h1.elim
  | some b =>
    rw [e] at h1
    exact ⟨b, tru_do p1 e, h1 b H1 .refl R1 rfl⟩
section
variable {X : Cx} {c : Cn} {W : XW} {a : Expr} {f : EM}
theorem tValG (ha : PE X a (tD (dc X c W) f)) (he : ∀ whole, isTrue a X.env whole = (do let v ← whole; standAt a.pos; holding [v] (truthy v)) := by intro _; rfl) : PT X a (tT (dc X c W) (isG f)) := PT.imp (pt_truth ha he) fun _ _ _ h => red_isG h
end
end DL

namespace DL
open L2 PySem PySem.Spec PyProof.Rows
/-! ## x = a + b, an own list -/
def sOwnAdd (i : Nat) (fa fb : EM) : SM := fun r w => (fa r w).bindS fun d w1 => (fb r w1).bindS fun e w2 =>
  match d, e with
  | .list a, .list b => if a.length + b.length ≤ szL then .nx (r.set i (.own (a ++ b))) w2 else .bad
  | _, _ => .bad
theorem red_ownAdd {C : Dc} {D : Ends} {i : Nat} {fa fb : EM} {σ : L2.St} {H : Hp} (h : tS C (sOwnAdd i fa fb) D σ H) : tAsg (tOp rCat (tD C fa) (tD C fb)) (gName i) D σ H := by
  obtain ⟨P, ow, r, w, R, h⟩ := h
  refine ⟨P, ow, r, w, R, gE.bindS h fun d w1 v H1 _ k1 R1 p1 h1 => ?_⟩
  refine ⟨P, ow, r, w1, R1, gE.bindS h1 fun e w2 u H2 _ k2 R2 p2 h2 => ?_⟩
  cases d with
  | list a =>
    cases e with
    | list b =>
      have h3 : gS C (if a.length + b.length ≤ szL then .nx (r.set i (.own (a ++ b))) w2 else .bad) P D := h2
      by_cases hl : a.length + b.length ≤ szL
      · rw [if_pos hl] at h3
        have p1' := Do.keep k2 R1.subO p1
        cases p1' with
        | @lst l xs _ hx n1 ha =>
          cases p2 with
          | @lst l2 ys _ hy n2 hb =>
            exact ⟨l, l2, xs, ys, rfl, rfl, hx, hy, by rw [ha.length, hb.length]; exact Nat.le_trans hl szL_le, fun p hp => h3 _ _ _ (R2.setOwn i hp (ha.append hb))⟩
      · rw [if_neg hl] at h3; exact h3.elim
    | none => exact h2.elim
    | bool _ => exact h2.elim
    | int _ => exact h2.elim
    | str _ => exact h2.elim
    | tuple _ => exact h2.elim
    | dict _ => exact h2.elim
  | none => exact h2.elim
  | bool _ => exact h2.elim
  | int _ => exact h2.elim
  | str _ => exact h2.elim
  | tuple _ => exact h2.elim
  | dict _ => exact h2.elim
section
variable {X : Cx} {c : Cn} {W : XW} {a b : Expr} {fa fb : EM} {pos : Pos}
theorem stOwnAdd (i : Nat) {x : Str} {p' p2 : Pos} (hN : X.N.Nodup) (hi : X.N[i]? = some x) (hx : Loc X.env.scope x) (ha : PE X a (tD (dc X c W) fa)) (hb : PE X b (tD (dc X c W) fb)) (hs : swapsWith (.BinOp a .Add b p2) (some (.Name x p')) pos.line X.env = pure false := by rfl)
    (hf : X.fn x = true ∨ X.env.scope.names.lookup x = some .local := by first | exact .inl rfl | exact .inr rfl | assumption) :
    PS X (.Assign [.Name x p'] (.BinOp a .Add b p2) pos) (tS (dc X c W) (sOwnAdd i fa fb)) := PS.imp (ps_set hN hi hx (pe_op op_cat ha hb) hs hf) fun _ _ _ => red_ownAdd
end
/-! ## sorted(set(a) & set(b)), sorted(set(a) - set(b)) on tuples of ints without doubles -/
def eSortS (z : Bool → Bool → Bool) (ok : Nat → Nat → Bool) (fa fb : EM) : EM := fun r w => (fa r w).bind fun d w1 =>
  match tupI d with
  | none => .bad
  | some ns => (fb r w1).bind fun e w2 =>
    match tupI e with
    | none => .bad
    | some ms => if ok ns.length ms.length = true ∧ (ns.filter fun j => z true (decide (j ∈ ms))).length < 64 then .ok (.list ((isort (ns.filter fun j => z true (decide (j ∈ ms)))).map .int)) w2 else .bad
theorem isort_eq {l m : List Int} (hl : l.Nodup) (hm : m.Pairwise (· < ·)) (h : ∀ k, k ∈ m ↔ k ∈ l) : m = isort l := by
  refine sorted_unique (((List.perm_ext_iff_of_nodup (hm.imp fun h e => by omega) hl).mpr h).trans (isort_perm l).symm) (hm.imp fun h => by omega) (isort_sorted l)
section
variable {C : Dc} {σ : L2.St} {H : Hp} {Q : VK}
theorem red_sortS {w0 : World} {z : Bool → Bool → Bool} {ok : Nat → Nat → Bool} {okP : Nat → Nat → Prop} (hok : ∀ n m, ok n m = true → okP n m) (hz : ∀ b, z false b = false) {fa fb : EM} (h : tD C (eSortS z ok fa fb) σ H Q) :
    tCB (rSortedSet w0) (tCons (tOp (rSets w0 z okP) (tCB (rSetI C.K w0) (tCons (tD C fa) tNil)) (tCB (rSetI C.K w0) (tCons (tD C fb) tNil))) tNil) σ H Q := by
  obtain ⟨P, ow, r, w, R, h⟩ := h
  refine ⟨P, ow, r, w, R, gE.bind h fun d w1 u H1 _ k1 R1 p1 h1 => ?_⟩
  cases e1 : tupI d with
  | none => rw [e1] at h1; exact h1.elim
  | some ns =>
    rw [e1] at h1
    obtain ⟨ds, rfl, t1, l1, n1⟩ := tupI_of e1
    obtain ⟨la, rfl, q1⟩ := ref_tup p1 t1
    refine ⟨la, ns, rfl, q1, l1, fun p k hp hk hc => ?_⟩
    have s2 : Same H1 (upd H1 p (SetO w0 p (fun j => decide (j ∈ ns)) k)) := same_new hp
    have st2 := step_same R1 s2
    refine ⟨P, ow, r, w1, st2.2, gE.bind (gE.later st2.1 h1) fun e w2 y H3 _ k3 R3 p3 h3 => ?_⟩
    cases e2 : tupI e with
    | none => rw [e2] at h3; exact h3.elim
    | some ms =>
      rw [e2] at h3
      obtain ⟨es, rfl, t2, l2, n2⟩ := tupI_of e2
      obtain ⟨lb, rfl, q2⟩ := ref_tup p3 t2
      have h4 : gE C (fD C) (if ok ns.length ms.length = true ∧ (ns.filter fun j => z true (decide (j ∈ ms))).length < 64 then .ok (.list ((isort (ns.filter fun j => z true (decide (j ∈ ms)))).map .int)) w2 else .bad) P ow r σ H3 Q := h3
      by_cases ho : ok ns.length ms.length = true ∧ (ns.filter fun j => z true (decide (j ∈ ms))).length < 64
      · rw [if_pos ho] at h4
        refine ⟨lb, ms, rfl, q2, l2, fun p' k' hp' hk' hc' => ?_⟩
        have hp3 : H3 p = some (SetO w0 p (fun j => decide (j ∈ ns)) k) := k3.same _ _ upd_same fun c => R1.fresh hp (R1.subO _ c)
        have hne : p ≠ p' := ne_of_none hp3 hp'
        have ek : k = ns.length := hc ns n1 fun j => decide_eq_true_iff
        have ek' : k' = ms.length := hc' ms n2 fun j => decide_eq_true_iff
        subst ek ek'
        have s4 : Same H3 (upd H3 p' (SetO w0 p' (fun j => decide (j ∈ ms)) ms.length)) := same_new hp'
        refine ⟨p, p', _, _, ns.length, ms.length, rfl, rfl, hne, s4 _ _ hp3, upd_same, hk, hk', hok _ _ ho.1, fun p2 k2 hp2 hk2 hc2 => ?_⟩
        have mem : ∀ j : Int, j ∈ (ns.filter fun j => z true (decide (j ∈ ms))) ↔ z (decide (j ∈ ns)) (decide (j ∈ ms)) = true := fun j => by
          rw [List.mem_filter]
          by_cases hj : j ∈ ns
          · simp [hj]
          · simp [hj, hz]
        have ek2 : k2 = (ns.filter fun j => z true (decide (j ∈ ms))).length := hc2 _ (n1.filter _) fun j => (mem j).symm
        subst ek2
        refine ⟨p2, _, _, rfl, upd_same, ho.2, fun out l hlt hmem hlen hl => ?_⟩
        have eo : out = isort (ns.filter fun j => z true (decide (j ∈ ms))) := isort_eq (n1.filter _) hlt fun k => (hmem k).trans (mem k).symm
        subst eo
        have s5 : Same H3 (upd (upd H3 p' (SetO w0 p' (fun j => decide (j ∈ ms)) ms.length)) p2 (SetO w0 p2 (fun j => z (decide (j ∈ ns)) (decide (j ∈ ms))) (ns.filter fun j => z true (decide (j ∈ ms))).length)) := fun b o e => same_new hp2 _ _ (s4 _ _ e)
        have s6 := fun b o e => same_new (o := HO.lst ((isort (ns.filter fun j => z true (decide (j ∈ ms)))).map V.int)) hl b o (s5 b o e)
        have st6 := step_same R3 s6
        exact h4.ret st6.1 st6.2 (.lst upd_same (fun z => by
          obtain ⟨o, e⟩ := R3.dom' l z
          rw [s5 _ _ e] at hl
          cases hl) (DoAll.ints _))
      · rw [if_neg ho] at h4; exact h4.elim
end
section
variable {X : Cx} {c : Cn} {W : XW} {a b : Expr} {fa fb : EM} {pos p p1 p2 p3 p4 p5 p6 : Pos}
theorem dSortS {op : Operator} {z : Bool → Bool → Bool} {ok : Nat → Nat → Bool} {okP : Nat → Nat → Prop} (hop : OpR X (binaryOp op) (rSets X.w z okP)) (hok : ∀ n m, ok n m = true → okP n m) (hz : ∀ b, z false b = false)
    {xl xs : Str} (hc : X.calm = true) (hg : Gl X xl) (hm : X.mg xl = none) (hb : bootBuiltins xl = some (.builtin "sorted")) (hn : xl ≠ "__name__") (hdb : (xl == ("__debug__" : Str)) = false) (hg2 : Gl X xs) (hm2 : X.mg xs = none) (hb2 : bootBuiltins xs = some (.type "set")) (hn2 : xs ≠ "__name__") (hdb2 : (xs == ("__debug__" : Str)) = false)
    (ha : PE X a (tD (dc X c W) fa)) (hb' : PE X b (tD (dc X c W) fb))
    (sa : starEach [a] X.env = (false, eval a X.env) :: starEach [] X.env := by rfl) (sb : starEach [b] X.env = (false, eval b X.env) :: starEach [] X.env := by rfl)
    (se : starEach [.BinOp (.Call (.Name xs p3) [a] [] p4) op (.Call (.Name xs p5) [b] [] p6) p2] X.env = (false, eval (.BinOp (.Call (.Name xs p3) [a] [] p4) op (.Call (.Name xs p5) [b] [] p6) p2) X.env) :: starEach [] X.env := by rfl)
    (l1 : (backTo p4 (starEach [] X.env)).any (·.1) = false := by rfl) (l2 : (backTo p6 (starEach [] X.env)).any (·.1) = false := by rfl) (l3 : (backTo pos (starEach [] X.env)).any (·.1) = false := by rfl) :
    PE X (.Call (.Name xl p1) [.BinOp (.Call (.Name xs p3) [a] [] p4) op (.Call (.Name xs p5) [b] [] p6) p2] [] pos) (tD (dc X c W) (eSortS z ok fa fb)) :=
  PE.imp (pe_callB (cr_sortedSet hc) hg hm hb (pa_cons (pe_op hop (pe_callTy (c_setI hc) hg2 hm2 hb2 (pa_cons ha pa_nil sa) hn2 hdb2 sa l1) (pe_callTy (c_setI hc) hg2 hm2 hb2 (pa_cons hb' pa_nil sb) hn2 hdb2 sb l2)) pa_nil se) hn hdb se l3) fun _ _ _ => red_sortS hok hz
end
end DL

namespace DL
open L2 PySem PySem.Spec PyProof.Rows
/-! ## list comprehensions of any number of clauses -/
section
variable {prog : Program} {w : World} {A : Around} {R : Result → Shared → Prop} {s : Shared} {elt tg ie t1 i1 : Expr} {fs f1 : List Expr} {gens : List Comprehension} {scope : Scope} {pos : Pos} {it acc : Value} {env : Env} {k : Nat}
/-- one turn of a clause: the next thing, the target, the tests, then the tail -/
def turnW (prog : Program) (w : World) (A : Around) (env : Env) (R : Result → Shared → Prop) (tg : Expr) (fs : List Expr) (it : Value) (tail : (Shared → Prop) → Shared → Prop) (post : Shared → Prop) (s : Shared) : Prop :=
  wpAny (model prog w) A (pyNext it) (fun r s1 => match r with
    | none => R (.ok .next) s1
    | some u => wpAny (model prog w) A (letOwnedTupleGo tg it u) (fun _ s2 => wpAny (model prog w) A (assign tg env u) (fun _ s3 =>
        wpAny (model prog w) A (forIn fs true fun q b => if b = true then do { let y ← isTrue q env (eval q env); pure (ForInStep.yield y) } else pure (ForInStep.yield b)) (fun y s4 => (y = true → tail post s4) ∧ (y = false → post s4))
          (notedBy (model prog w) A env fun e s' => R (.error e) s') s3) (notedBy (model prog w) A env fun e s' => R (.error e) s') s2) (notedBy (model prog w) A env fun e s' => R (.error e) s') s1) (notedBy (model prog w) A env fun e s' => R (.error e) s') s
def tailEnd (prog : Program) (w : World) (A : Around) (env : Env) (R : Result → Shared → Prop) (elt : Expr) (acc : Value) (post : Shared → Prop) (s : Shared) : Prop :=
  wpAny (model prog w) A (eval elt env) (fun x s1 => wpAny (model prog w) A (call (.builtin "list.append") [acc, x]) (fun _ s2 => post s2) (notedBy (model prog w) A env fun e s' => R (.error e) s') s1) (notedBy (model prog w) A env fun e s' => R (.error e) s') s
def tailMid (prog : Program) (w : World) (A : Around) (env : Env) (R : Result → Shared → Prop) (elt : Expr) (gens : List Comprehension) (scope : Scope) (pos : Pos) (k : Nat) (i1 : Expr) (acc : Value) (post : Shared → Prop) (s : Shared) : Prop :=
  wpAny (model prog w) A (eval i1 env) (fun x s1 => wpAny (model prog w) A (pyIter x) (fun it1 s2 =>
    codeAny (model prog w) A (.compStart (.ListComp elt gens scope pos) k it1 acc env) (fun r s' => match r with
      | .ok _ => post s'
      | .error _ => False) s2) (notedBy (model prog w) A env fun e s' => R (.error e) s') s1) (notedBy (model prog w) A env fun e s' => R (.error e) s') s
theorem loopEnd (hk : gens[k]? = some ⟨tg, ie, fs, 0⟩) (hk1 : gens[k + 1]? = none) (I : Nat → Shared → Prop)
    (turn : ∀ n s, I n s → turnW prog w A env R tg fs it (tailEnd prog w A env R elt acc) (fun s' => ∃ m, m < n ∧ I m s') s) (n : Nat) (h : I n s) :
    codeAny (model prog w) A (.compLoop (.ListComp elt gens scope pos) k it acc env) R s := by
  refine codeAny_loop rfl I (fun n s hI => ?_) n h
  show wpAny _ A ((compTurn (.ListComp elt gens scope pos) k it acc env).onRaise (fun x => do noteFrame x env; theTreesLotGoes x)) _ _ s
  refine wpAny_noted ?_
  unfold compTurn
  simp only [hk, hk1]
  refine wpAny_bind (wpAny_standAt (wpAny_bind (wpAny_mono (turn n s hI) (fun r s₁ h₁ => ?_) fun _ _ z => z)))
  cases r with
  | none => exact wpAny_pure h₁
  | some u =>
    refine wpAny_bind (wpAny_mono h₁ (fun _ s2 h2 => ?_) fun _ _ z => z)
    refine wpAny_bind (wpAny_mono h2 (fun _ s3 h3 => wpAny_bind (wpAny_mono h3 (fun y s4 h4 => ?_) fun _ _ z => z)) fun _ _ z => z)
    cases y with
    | false => exact wpAny_pure ⟨rfl, h4.2 rfl⟩
    | true =>
      exact wpAny_bind (wpAny_bind (wpAny_mono (h4.1 rfl) (fun x s5 h5 => wpAny_bind (wpAny_mono h5 (fun _ s6 h6 => wpAny_pure (wpAny_pure ⟨rfl, h6⟩)) fun _ _ z => z)) fun _ _ z => z))
theorem loopMid (hk : gens[k]? = some ⟨tg, ie, fs, 0⟩) (hk1 : gens[k + 1]? = some ⟨t1, i1, f1, 0⟩) (hs : ∀ x, foldedSetIterable i1 env x = pure x) (I : Nat → Shared → Prop)
    (turn : ∀ n s, I n s → turnW prog w A env R tg fs it (tailMid prog w A env R elt gens scope pos (k + 1) i1 acc) (fun s' => ∃ m, m < n ∧ I m s') s) (n : Nat) (h : I n s) :
    codeAny (model prog w) A (.compLoop (.ListComp elt gens scope pos) k it acc env) R s := by
  refine codeAny_loop rfl I (fun n s hI => ?_) n h
  show wpAny _ A ((compTurn (.ListComp elt gens scope pos) k it acc env).onRaise (fun x => do noteFrame x env; theTreesLotGoes x)) _ _ s
  refine wpAny_noted ?_
  unfold compTurn
  simp only [hk, hk1]
  refine wpAny_bind (wpAny_standAt (wpAny_bind (wpAny_mono (turn n s hI) (fun r s₁ h₁ => ?_) fun _ _ z => z)))
  cases r with
  | none => exact wpAny_pure h₁
  | some u =>
    refine wpAny_bind (wpAny_mono h₁ (fun _ s2 h2 => ?_) fun _ _ z => z)
    refine wpAny_bind (wpAny_mono h2 (fun _ s3 h3 => wpAny_bind (wpAny_mono h3 (fun y s4 h4 => ?_) fun _ _ z => z)) fun _ _ z => z)
    cases y with
    | false => exact wpAny_pure ⟨rfl, h4.2 rfl⟩
    | true =>
      refine wpAny_bind (wpAny_mono (h4.1 rfl) (fun x s5 h5 => ?_) fun _ _ z => z)
      refine wpAny_bind (wpAny_standAt (wpAny_bind (wpAny_of_eq (hs x) (wpAny_bind (wpAny_holding (wpAny_mono h5 (fun it1 s6 h6 => ?_) fun _ _ z => z))))))
      refine wpAny_bind (wpAny_runOwn ?_)
      rw [Around.mark_none]
      refine codeAny_mono h6 fun r s' hr => ?_
      cases r with
      | ok f => first
          | exact wpAny_pure ⟨rfl, hr⟩
          | exact wpAny_bind (wpAny_pure (wpAny_pure ⟨rfl, hr⟩))
      | error e => exact hr.elim
theorem startNext (hk : gens[k + 1]? = some ⟨tg, ie, fs, 0⟩) (h0 : codeAny (model prog w) A (.compLoop (.ListComp elt gens scope pos) (k + 1) it acc env) R s)
    (h : wpAny (model prog w) A (pyIter it) (fun it' s' => codeAny (model prog w) A (.compLoop (.ListComp elt gens scope pos) (k + 1) it' acc env) R s') (notedBy (model prog w) A env fun x s' => R (.error x) s') s) :
    codeAny (model prog w) A (.compStart (.ListComp elt gens scope pos) (k + 1) it acc env) R s := by
  refine codeAny_of_tree ?_
  show wpAny _ _ ((compStart (.ListComp elt gens scope pos) (k + 1) it acc env).onRaise (fun x => do noteFrame x env; standAt theWindowsPlace)) _ _ s
  refine wpAny_notedAt ?_
  unfold compStart
  simp only [hk, PySem.clausesOf]
  rw [if_neg (by simp)]
  refine wpAny_bind (wpAny_askSetting (wpAny_ite ?_))
  split
  · first
      | exact wpAny_pure ⟨rfl, h0⟩
      | exact wpAny_bind (wpAny_pure (wpAny_pure ⟨rfl, h0⟩))
  · refine wpAny_bind (wpAny_rule (wpAny_bind (wpAny_standAt (wpAny_bind (wpAny_mono h (fun it' s' h' => ?_) fun _ _ z => z)))))
    exact wpAny_pure ⟨rfl, h'⟩
end
/-- what the things behind a clause's tests are read as -/
abbrev Body := L2.St → Hp → (Hp → Prop) → Prop
def stepN (g : TG) (tt : TT) (vs : List Nat) (σ : L2.St) (body : Body) (N : Hp → Prop) (x : V) (H : Hp) : Prop :=
  g x (wipe σ vs) H fun σ2 H2 => wipe σ2 vs = wipe σ vs ∧ tt σ2 H2 fun b H3 => (b = false → N H3) ∧ (b = true → body σ2 H3 N)
def bodyEnd (te : TE) (D : Addr) : Body := fun σ H N => te σ H fun y H1 => ∃ acc, H1 D = some (.lst acc) ∧ acc.length < sizeLine ∧ N (upd H1 D (.lst (acc ++ [y])))
def bodyCl (wi : TI) (g : TG) (tt : TT) (vs : List Nat) (body : Body) : Body := fun σ H N => wi σ H fun J H1 => ∃ W : Nat → Nat → Hp → Prop, (∃ m, W 0 m H1) ∧ walkDc J W N (stepN g tt vs σ body)
def tLcN (wi : TI) (g : TG) (tt : TT) (vs : List Nat) (body : Addr → Body) : TE := fun σ H Q =>
  wi σ H fun J H1 => ∀ D, H1 D = none → ∃ W : Nat → Nat → Hp → Prop, (∃ m, W 0 m (upd H1 D (.lst []))) ∧ walkDc J W (fun H => Q (.ref D) H) (stepN g tt vs σ (body D))
/-- the tail does what it is read as; vs: the slots that it may fill -/
def TailOk (Y : Cx) (vs : List Nat) (tail : (Shared → Prop) → Shared → Prop) (body : Body) : Prop :=
  ∀ (pins : List (Addr × Obj)) (σ : L2.St) (H : Hp) (s : Shared) (N : Hp → Prop) (post : Shared → Prop), Inv Y pins σ H s → body σ H N → (∀ H' s', Inv Y pins (wipe σ vs) H' s' → N H' → post s') → tail post s
section
variable {Y : Cx} {elt tg ie : Expr} {fs : List Expr} {gens : List Comprehension} {scope : Scope} {pos : Pos} {k : Nat} {R : Result → Shared → Prop}
theorem thnY {α : Type} {t : Sem α} {Q Q' : α → Shared → Prop} {M : Model} {A : Around} {E : Value → Shared → Prop} {s : Shared} (hx : Y.xe = fun _ _ => False) (h : wpAny M A t Q Y.xe s) (hQ : ∀ a s, Q a s → Q' a s) : wpAny M A t Q' E s := thnF (hx ▸ h) hQ
theorem tailEnd_ok {te : TE} {D : Addr} (hx : Y.xe = fun _ _ => False) (pe : PE Y elt te) : TailOk Y [] (tailEnd Y.prog Y.w Y.A Y.env R elt (.ref D)) (bodyEnd te D) := by
  intro pins σ H s N post I hb hp
  refine thnY hx (pe.run pins s σ H _ I hb) fun x s1 ⟨y, H1, I1, r1, acc, hD, few, n1⟩ => ?_
  exact app_ok I1 hD few r1 fun s2 I2 => hp _ s2 I2 n1
/-- a clause's loop -/
theorem clause_loop {tail : (Shared → Prop) → Shared → Prop} {body : Body} {vs vs' : List Nat} {g : TG} {tt : TT} {J : It} {it : Addr} {fp : List Addr} {tn : Nat → Heap → Prop} {pins : List (Addr × Obj)} {σ0 : L2.St} {H1 : Hp} {s1 : Shared} {W : Nat → Nat → Hp → Prop} {fin : Hp → Prop} {n0 : Nat} {c : Code} (hx : Y.xe = fun _ _ => False)
    (rule : ∀ (I : Nat → Shared → Prop), (∀ n s, I n s → turnW Y.prog Y.w Y.A Y.env R tg fs (.ref it) tail (fun s' => ∃ m, m < n ∧ I m s') s) → ∀ n s, I n s → codeAny (model Y.prog Y.w) Y.A c R s)
    (tk : TailOk Y vs' tail body) (sub : ∀ i ∈ vs', i ∈ vs) (hc : Y.calm = true) (T : L2.Turn Y.prog Y.w Y.K tg J fp it tn) (pg : PG Y tg g) (pt : PTs Y fs tt) (hW : walkDc J W fin (stepN g tt vs σ0 body))
    (I1 : Inv Y pins (wipe σ0 vs) H1 s1) (st1 : tn 0 s1.heap) (n1 : ∀ b ∈ fp, H1 b = none) (w1 : W 0 n0 H1) (stat : ∀ σ' H' s', Inv Y pins σ' H' s' → (∀ b ∈ fp, H' b = none) → ∀ b ∈ fp, FpOk Y pins H' b)
    (out : ∀ H' s', Inv Y pins (wipe σ0 vs) H' s' → fin H' → R (.ok .next) s') : codeAny (model Y.prog Y.w) Y.A c R s1 := by
  let At : Nat → Shared → Prop := fun m s' => ∃ i H', Inv Y pins (wipe σ0 vs) H' s' ∧ tn i s'.heap ∧ (∀ b ∈ fp, H' b = none) ∧ W i m H'
  refine rule At (fun m s5 h5 => ?_) n0 s1 ⟨0, H1, I1, st1, n1, w1⟩
  obtain ⟨i, H5, I5, st5, n5, w5⟩ := h5
  unfold turnW
  rcases hW i m H5 w5 with ⟨hstop, hfin⟩ | ⟨hgo, N, hN, hturn⟩
  · exact thnF (T.done Y rfl rfl rfl hc i pins s5 _ H5 (fun _ _ => False) I5 (stat _ _ _ I5 n5) st5 hstop) fun r s6 ⟨er, I6⟩ => er ▸ out H5 s6 I6 hfin
  · refine thnF (T.item Y rfl rfl rfl hc i pins s5 _ H5 (fun _ _ => False) I5 (stat _ _ _ I5 n5) st5 hgo) fun r s6 ⟨u, er, h6⟩ => ?_
    rw [er]
    refine thnF h6 fun _ s7 ⟨x, H7, I7, rx, y7, st7, n7⟩ => ?_
    have P7 := I7.pinned (stat _ _ _ I7 n7) (T.obj _ _ st7)
    have back : ∀ {σ9 : L2.St} {H' : Hp} {s' : Shared}, Inv Y (pins ++ pinsAt fp s7.heap) σ9 H' s' → (wipe σ0 vs).length = σ9.length → (∀ (j : Nat) v, (wipe σ0 vs)[j]? = some (some v) → σ9[j]? = some (some v)) → N H' → ∃ m', m' < m ∧ At m' s' := by
      intro σ9 H' s' I' hl hk nx
      obtain ⟨m', lt, w'⟩ := hN H' nx
      have pn : ∀ b ∈ fp, ∀ o, s7.heap.get? b = some o → s'.heap.get? b = some o ∧ H' b = none := fun b hb o e => by
        obtain ⟨z1, z2, _⟩ := I'.pin (b, o) (List.mem_append_right _ (List.mem_append_right _ (mem_pinsAt hb e)))
        exact ⟨z1, z2⟩
      refine ⟨m', lt, i + 1, H', I'.unpinned.weak hl hk, T.keep _ _ _ st7 fun b hb o e => (pn b hb o e).1, fun b hb => ?_, w'⟩
      obtain ⟨o, e, _⟩ := T.obj _ _ st7 b hb
      exact (pn b hb o e).2
    refine thnY hx (pg.run _ s7 _ H7 x u _ P7 rx (hturn x H7 y7)) fun _ s8 ⟨σ8, H8, I8, hw8, q8⟩ => ?_
    refine thnY hx (pt.run _ s8 σ8 H8 _ I8 q8) fun b s9 ⟨H9, I9, qf, qt⟩ => ⟨fun hb => ?_, fun hb => ?_⟩
    · refine tk _ σ8 H9 s9 N _ I9 (qt hb) fun H' s' I' nx => back I' ?_ (fun j v e => ?_) nx
      · rw [← hw8, wipe_length, wipe_length]
      · rw [← hw8] at e
        obtain ⟨e1, e2⟩ := wipe_some e
        rw [wipe_out fun z => e2 (sub j z)]
        exact e1
    · exact back I9 (by rw [← hw8, wipe_length]) (fun j v e => by rw [← hw8] at e; exact (wipe_some e).1) (qf hb)
/-- a clause behind another one -/
theorem tailMid_ok {tail : (Result → Shared → Prop) → (Shared → Prop) → Shared → Prop} {body : Body} {vs vs' : List Nat} {wi : TI} {g : TG} {tt : TT} {D : Addr} (hx : Y.xe = fun _ _ => False) (hk : gens[k + 1]? = some ⟨tg, ie, fs, 0⟩)
    (rule : ∀ (R : Result → Shared → Prop) (it : Addr) (I : Nat → Shared → Prop), (∀ n s, I n s → turnW Y.prog Y.w Y.A Y.env R tg fs (.ref it) (tail R) (fun s' => ∃ m, m < n ∧ I m s') s) → ∀ n s, I n s → codeAny (model Y.prog Y.w) Y.A (.compLoop (.ListComp elt gens scope pos) (k + 1) (.ref it) (.ref D) Y.env) R s)
    (tk : ∀ R, TailOk Y vs' (tail R) body) (sub : ∀ i ∈ vs', i ∈ vs) (hc : Y.calm = true) (pi : PI Y tg ie wi) (pg : PG Y tg g) (pt : PTs Y fs tt) :
    TailOk Y vs (tailMid Y.prog Y.w Y.A Y.env R elt gens scope pos (k + 1) ie (.ref D)) (bodyCl wi g tt vs body) := by
  intro pins σ H s N post I hb hp
  refine thnY hx (pi.run pins s σ H _ I hb) fun xv s1 h1 => thnY hx h1 fun itv s2 ⟨it, fp, tn, J, H2, eit, I2, T, st2, f2, W, ⟨n0, w0⟩, hW⟩ => ?_
  subst eit
  have lp := clause_loop (R := fun r s' => match r with
    | .ok _ => post s'
    | .error _ => False) (σ0 := σ) hx (rule _ it) (tk _) sub hc T pg pt hW (I2.weak (wipe_length _ _) fun j v e => (wipe_some e).1) st2 (fun b hb => (f2 b hb).1) w0 (fun σ' H' s' I' hn b hb => ⟨hn b hb, (f2 b hb).2⟩) fun H' s' I' nx => hp H' s' I' nx
  exact startNext hk lp (T.self Y.A 0 _ _ _ st2 lp)
end
section
variable {X : Cx}
theorem pe_lcN {elt tg iter : Expr} {fs : List Expr} {rest : List Comprehension} {scope : Scope} {own : List (Str × Nat)} {pos : Pos} {wi : TI} {g : TG} {tt : TT} {vs' : List Nat} {body : Addr → Body} (tail : Cx → Addr → (Result → Shared → Prop) → (Shared → Prop) → Shared → Prop)
    (hc : X.calm = true) (hN : X.N.Nodup) (hi : PI X tg iter wi) (ok : BlkOk X.N X.env.scope scope own) (sub : ∀ i ∈ vs', i ∈ own.map (·.2))
    (hg : ∀ (s : Shared) (H : Hp) (C : Addr) (cl : List (Str × Addr)) (fp : List Addr), PG (X.blk s H scope (compEnvC scope cl C X.env) fp) tg g) (ht : ∀ (s : Shared) (H : Hp) (C : Addr) (cl : List (Str × Addr)) (fp : List Addr), PTs (X.blk s H scope (compEnvC scope cl C X.env) fp) fs tt)
    (tk : ∀ (s : Shared) (H : Hp) (C : Addr) (cl : List (Str × Addr)) (fp : List Addr) (D : Addr) (R : Result → Shared → Prop), TailOk (X.blk s H scope (compEnvC scope cl C X.env) fp) vs' (tail (X.blk s H scope (compEnvC scope cl C X.env) fp) D R) (body D))
    (rule : ∀ (Y : Cx) (D : Addr) (R : Result → Shared → Prop) (it : Addr) (I : Nat → Shared → Prop), (∀ n s, I n s → turnW Y.prog Y.w Y.A Y.env R tg fs (.ref it) (tail Y D R) (fun s' => ∃ m, m < n ∧ I m s') s) → ∀ n s, I n s → codeAny (model Y.prog Y.w) Y.A (.compLoop (.ListComp elt (⟨tg, iter, fs, 0⟩ :: rest) scope pos) 0 (.ref it) (.ref D) Y.env) R s)
    (hs : ∀ x, foldedSetIterable iter X.env x = pure x := by intro _; rfl) : PE X (.ListComp elt (⟨tg, iter, fs, 0⟩ :: rest) scope pos) (tLcN wi g tt (own.map (·.2)) body) := by
  refine ⟨fun pins s σ H Q I h => ?_⟩
  rw [eval_ListComp]
  have cells : ∀ y ∈ scope.names, y.2 = .free → ∃ c, X.env.cells.lookup y.1 = some c := by
    intro y hy e
    exact I.ok.has _ ((ok.free y hy e).imp id id)
  refine wpAny_comprehension_free (use := none) rfl hs (closure_ok cells) ok.kind (fun y hy e => by rw [ok.uniq y hy, e]) ?_
  refine thn (hi.run pins s σ H _ I h) fun xv s1 hx => thn hx fun itv s2 ⟨it, fp, tn, J, H2, eit, I2, T, st2, f2, q⟩ => ?_
  subst eit
  have nD : H2 s2.heap.objs.size = none := I2.hok.fresh (Nat.le_refl _)
  obtain ⟨W, ⟨n0, w0⟩, hW⟩ := q _ nD
  refine wpAny_newObj_type (newEnv_comp ?_) (by show 0 ≤ sizeLine; decide)
  -- the new list stands
  have kD : ∀ b o, s2.heap.get? b = some o → (s2.heap.push { cls := .type "list", data := .seq ([] : List Value).toArray }).get? b = some o := fun b o e => Heap.get?_push_of_some _ e
  generalize eS3 : ({ s2 with heap := s2.heap.push { cls := .type "list", data := .seq ([] : List Value).toArray } } : Shared) = s3
  generalize eH3 : upd H2 s2.heap.objs.size (.lst []) = H3 at w0
  have I3 : Inv X pins σ H3 s3 := by
    rw [← eS3, ← eH3]
    exact I2.laid (t' := s2.toks) kD (Nat.le_refl _) ⟨Nat.zero_le _, [], 0, .nil, Heap.get?_push_size _ rfl⟩
  have hp3 : s3.heap = s2.heap.push { cls := .type "list", data := .seq ([] : List Value).toArray } := by rw [← eS3]
  have f3 : ∀ b ∈ fp, FpOk X pins H3 b ∧ b < s3.heap.objs.size := by
    intro b hb
    obtain ⟨o, e, _⟩ := T.obj _ _ st2 b hb
    have lt : b < s2.heap.objs.size := Heap.lt_size e
    obtain ⟨a1, a2⟩ := f2 b hb
    refine ⟨⟨?_, a2⟩, ?_⟩
    · rw [← eH3, upd_ne (Nat.ne_of_lt lt)]
      exact a1
    · rw [hp3, Heap.size_push]
      exact Nat.lt_succ_of_lt lt
  have I4 := block_start I3 ok hN f3
  have g4 := hg s3 H3 s3.heap.objs.size (cellsFrom (s3.heap.objs.size + 1) scope.names (cloFrom X.env.cells scope.names [])) fp
  have t4 := ht s3 H3 s3.heap.objs.size (cellsFrom (s3.heap.objs.size + 1) scope.names (cloFrom X.env.cells scope.names [])) fp
  have k4 := tk s3 H3 s3.heap.objs.size (cellsFrom (s3.heap.objs.size + 1) scope.names (cloFrom X.env.cells scope.names [])) fp s2.heap.objs.size
  have st4 : tn 0 (pushCells (s3.heap.push { cls := .type "dict", data := .dict #[] }) scope.names) := T.keep _ _ _ st2 fun b _ o e => pushCells_keeps _ _ _ _ (Heap.get?_push_of_some _ (hp3 ▸ kD b o e))
  have lp := clause_loop (R := compPost (model X.prog X.w) X.A X.xe none (EP X pins σ Q) (.ref s2.heap.objs.size) s3.heap.objs.size) (σ0 := σ) rfl (rule _ s2.heap.objs.size _ it) (k4 _) sub hc T g4 t4 hW I4 st4 (fun b hb => (f3 b hb).1.1) w0 (fun σ' H' s' I' hn => blk_fp I' hn) fun H' s' I' hq => ?_
  · exact codeAny_compStart_list lp (T.self X.A 0 _ _ _ st4 lp)
  · -- back in the frame
    have I7 : Inv X pins σ H' s' := I3.call' (ch := fp) I'.os I'.base I'.hok I'.bare fun b hb => by
      obtain ⟨⟨_, a2, _, a4, a5, a6⟩, _⟩ := f3 b hb
      exact ⟨a4, a2, a5, a6⟩
    have nC : H' s3.heap.objs.size = none := I'.free
    obtain ⟨m, hn, _⟩ := I'.loc
    obtain ⟨b0, b1, _, b3, b4, b5⟩ := I3.fpOk (H' := H') (Nat.le_refl _) nC
    refine ⟨m, hn, fun h'' sb => ⟨.ref s2.heap.objs.size, H', ?_, rfl, hq⟩⟩
    exact I7.turned (t' := s'.toks) (fun b o hb e => (sb.2 b hb).trans e) b0 b1 b3 b4 b5
end
end DL

namespace DL
open L2 PySem PySem.Spec PyProof.Rows
/-! ## comprehensions of any number of clauses: meaning -/
abbrev CM := List SV → DS → Option (List PyData × DS)
def cmEnd (f : EM) : CM := fun r w => (toOpt (f r w)).bind fun yw => some ([yw.1], yw.2)
def cmLoop (p : Pat) (t : TM) (m : CM) (r0 : List SV) : List PyData → DS → Option (List PyData × DS)
  | [], w => some ([], w)
  | d :: ds, w => (setP p d r0).bind fun r1 => (toOpt (t r1 w)).bind fun bw => if bw.1 = true then (m r1 bw.2).bind fun yw => (cmLoop p t m r0 ds yw.2).bind fun zw => some (yw.1 ++ zw.1, zw.2) else cmLoop p t m r0 ds bw.2
def cmCl (vs : List Nat) (fi : IM) (p : Pat) (t : TM) (m : CM) : CM := fun r w => (toOpt (fi r w)).bind fun zw => cmLoop p t m (wipeR r vs) zw.1 zw.2
def eLcN (vs : List Nat) (fi : IM) (p : Pat) (t : TM) (m : CM) : EM := fun r w => (fi r w).bind fun ds w1 =>
  match cmLoop p t m (wipeR r vs) ds w1 with
  | some (ys, w2) => if ys.length ≤ szL then .ok (.list ys) w2 else .bad
  | none => .bad
section
variable {C : Dc} {P0 : List (V × PyData)} {ow : Nat → Option Addr} {r0 : List SV} {w1 : DS} {σ0 : L2.St} {H1 : Hp} {D : Addr}
/-- m tells what body does to the list at D -/
def mOk (C : Dc) (ow : Nat → Option Addr) (D : Addr) (H1 : Hp) (m : CM) (body : Body) : Prop :=
  ∀ (Ha : Hp) (P : List (V × PyData)) (ow2 : Nat → Option Addr) (r : List SV) (w : DS) (σ : L2.St) (H : Hp) (ys zs : List PyData) (w' : DS) (N : Hp → Prop), Rel C.mg C.K (blkC C.c ow D Ha) P ow2 r w σ H → CompAt C ow D H1 H ys w → m r w = some (zs, w') → (ys ++ zs).length ≤ szL →
    (∀ H', CompAt C ow D H1 H' (ys ++ zs) w' → Keep (fun b => SAd C.c.sa b ∨ b = D) H H' → N H') → body σ H N
theorem CompAt.step {H H2 : Hp} {ys : List PyData} {w w' : DS} (R1 : C.Rl P0 ow r0 w1 σ0 H1) (hD : H1 D = none) (a : CompAt C ow D H1 H ys w) (k : Keep (SAd C.c.sa) H H2) (st : StOk C.c.sa w' H2) : CompAt C ow D H1 H2 ys w' := by
  obtain ⟨xs, hx, hd⟩ := a.acc
  exact ⟨⟨xs, k.same _ _ hx fun z => R1.fresh hD (R1.subO D z), hd.keep k fun b hb => .inl (R1.subO b hb)⟩, a.keep.trans k, st⟩
theorem mOk_end (R1 : C.Rl P0 ow r0 w1 σ0 H1) (hD : H1 D = none) {f : EM} : mOk C ow D H1 (cmEnd f) (bodyEnd (fun σ H Q => ∃ c, tD ⟨C.mg, C.K, c, WF⟩ f σ H Q) D) := by
  intro Ha P ow2 r w σ H ys zs w' N R a em hl hN
  have em1 : ((toOpt (f r w)).bind fun yw => some ([yw.1], yw.2)) = some (zs, w') := em
  cases e : toOpt (f r w) with
  | none => rw [e] at em1; cases em1
  | some yw =>
    obtain ⟨z, w8⟩ := yw
    rw [e] at em1
    have em2 : some ([z], w8) = some (zs, w') := em1
    cases em2
    refine ⟨blkC C.c ow D Ha, P, ow2, r, w, R, ?_⟩
    rw [toOpt_some e]
    intro v H8 k8 R8 pv
    rw [List.length_append, List.length_singleton] at hl
    obtain ⟨xs, hx, few, a9⟩ := a.push R1 hD k8 R8.st (pv.weak fun b hb => .inl hb) (Nat.lt_of_lt_of_le (by omega) szL_le)
    have kD : Keep (fun b => SAd C.c.sa b ∨ b = D) H8 (upd H8 D (.lst (xs ++ [v]))) := ⟨fun b o q n => by rw [upd_ne fun z => n (.inr z)]; exact q, fun b zs q => by
      have n : b ≠ D := fun z => by rw [z, hx] at q; cases q
      rw [upd_ne n]; exact q, fun b o u q => by
      have n : b ≠ D := fun z => by rw [z, hx] at q; cases q
      rw [upd_ne n]; exact q, fun b u q => by
      have n : b ≠ D := fun z => by rw [z, hx] at q; cases q
      rw [upd_ne n]; exact q⟩
    exact ⟨xs, hx, few, hN _ a9 ((k8.mono fun b z => .inl z).trans kD)⟩
theorem cm_dom {H : Hp} {ys : List PyData} {w : DS} (R1 : C.Rl P0 ow r0 w1 σ0 H1) (a : CompAt C ow D H1 H ys w) : ∀ b, (Ow C.c.O0 ow b ∨ b = D) → ∃ o, H b = some o := fun b hb => by
  rcases hb with hb | hb
  · exact (R1.after a.keep a.st).dom' b hb
  · rw [hb]; exact let ⟨xs, hx, _⟩ := a.acc; ⟨_, hx⟩
/-- one turn, from a state of the block's slots -/
theorem cm_turn (R1 : C.Rl P0 ow r0 w1 σ0 H1) (hD : H1 D = none) {p : Pat} {t : TM} {m : CM} {body : Body} {vs : List Nat} (hm : mOk C ow D H1 m body) (hp : ∀ i ∈ slotsP p, i ∈ vs) {H6 : Hp} {rb : List SV} {σb : L2.St} {w3 w5 : DS} {d : PyData} {ds : List PyData} {x : V} {ys rest : List PyData} {N : Hp → Prop}
    (Rb : Rel C.mg C.K (blkC C.c ow D H6) [] (fun _ => none) rb w3 (wipe σb vs) H6) (a : CompAt C ow D H1 H6 ys w3) (pd : Do C.K H6 (fun b => Ow C.c.O0 ow b ∨ b = D) x d) (e : cmLoop p t m rb (d :: ds) w3 = some (rest, w5)) (hl : (ys ++ rest).length ≤ szL)
    (hN : ∀ H' zs w4 rest2, CompAt C ow D H1 H' (ys ++ zs) w4 → Keep (fun b => SAd C.c.sa b ∨ b = D) H6 H' → cmLoop p t m rb ds w4 = some (rest2, w5) → rest = zs ++ rest2 → N H') :
    stepN (fun v σ H Q => ∃ c, tP ⟨C.mg, C.K, c, WF⟩ p v σ H Q) (fun σ H Q => ∃ c, tT ⟨C.mg, C.K, c, WF⟩ t σ H Q) vs σb body N x H6 := by
  have e0 : ((setP p d rb).bind fun r1 => (toOpt (t r1 w3)).bind fun bw => if bw.1 = true then (m r1 bw.2).bind fun yw => (cmLoop p t m rb ds yw.2).bind fun zw => some (yw.1 ++ zw.1, zw.2) else cmLoop p t m rb ds bw.2) = some (rest, w5) := e
  cases e1 : setP p d rb with
  | none => rw [e1] at e0; cases e0
  | some r1 =>
    rw [e1] at e0
    refine ⟨blkC C.c ow D H6, [], _, _, w3, d, r1, Rb, pd.weak (fun b hb => by
      rcases hb with hb | ⟨_, hb⟩
      · exact hb
      · cases hb), e1, fun σ2 ow2 R2 sa sub => ⟨wipe_same sa hp, ?_⟩⟩
    have e2 : ((toOpt (t r1 w3)).bind fun bw => if bw.1 = true then (m r1 bw.2).bind fun yw => (cmLoop p t m rb ds yw.2).bind fun zw => some (yw.1 ++ zw.1, zw.2) else cmLoop p t m rb ds bw.2) = some (rest, w5) := e0
    cases e3 : toOpt (t r1 w3) with
    | none => rw [e3] at e2; cases e2
    | some bw =>
      obtain ⟨b, w4⟩ := bw
      rw [e3] at e2
      refine ⟨blkC C.c ow D H6, [], ow2, r1, w3, R2, ?_⟩
      rw [toOpt_some e3]
      intro b' H7 k7 R7 eb
      have eb' : b = b' := eb
      subst eb'
      have a7 : CompAt C ow D H1 H7 ys w4 := a.step R1 hD k7 R7.st
      refine ⟨fun hb => ?_, fun hb => ?_⟩
      · subst hb
        exact hN H7 [] w4 rest (by rw [List.append_nil]; exact a7) (k7.mono fun b z => .inl z) e2 rfl
      · subst hb
        have e4 : ((m r1 w4).bind fun yw => (cmLoop p t m rb ds yw.2).bind fun zw => some (yw.1 ++ zw.1, zw.2)) = some (rest, w5) := e2
        cases e5 : m r1 w4 with
        | none => rw [e5] at e4; cases e4
        | some yw =>
          obtain ⟨zs, w6⟩ := yw
          rw [e5] at e4
          have e6 : ((cmLoop p t m rb ds w6).bind fun zw => some (zs ++ zw.1, zw.2)) = some (rest, w5) := e4
          cases e7 : cmLoop p t m rb ds w6 with
          | none => rw [e7] at e6; cases e6
          | some zw =>
            obtain ⟨rest2, w7⟩ := zw
            rw [e7] at e6
            have e8 : some (zs ++ rest2, w7) = some (rest, w5) := e6
            cases e8
            refine hm H6 [] ow2 r1 w4 σ2 H7 ys zs w6 N R7 a7 e5 (Nat.le_trans ?_ hl) fun H' a' k' => hN H' zs w6 rest2 a' ((k7.mono fun b z => .inl z).trans k') e7 rfl
            rw [List.length_append, List.length_append, List.length_append]
            omega
theorem mOk_cl (R1 : C.Rl P0 ow r0 w1 σ0 H1) (hD : H1 D = none) {fi : IM} {p : Pat} {t : TM} {m : CM} {body : Body} {vs : List Nat} (hm : mOk C ow D H1 m body) (hp : ∀ i ∈ slotsP p, i ∈ vs) :
    mOk C ow D H1 (cmCl vs fi p t m) (bodyCl (fun σ H R => ∃ c, tI ⟨C.mg, C.K, c, WF⟩ fi σ H R) (fun v σ H Q => ∃ c, tP ⟨C.mg, C.K, c, WF⟩ p v σ H Q) (fun σ H Q => ∃ c, tT ⟨C.mg, C.K, c, WF⟩ t σ H Q) vs body) := by
  intro Ha P ow2 r w σ H ys tot w' N R a em hl hN
  have em1 : ((toOpt (fi r w)).bind fun zw => cmLoop p t m (wipeR r vs) zw.1 zw.2) = some (tot, w') := em
  cases e : toOpt (fi r w) with
  | none => rw [e] at em1; cases em1
  | some zw =>
    obtain ⟨ds, w2⟩ := zw
    rw [e] at em1
    have em2 : cmLoop p t m (wipeR r vs) ds w2 = some (tot, w') := em1
    refine ⟨blkC C.c ow D Ha, P, ow2, r, w, R, ?_⟩
    rw [toOpt_some e]
    intro jp H4 k4 R4 p4
    obtain ⟨hpin, wk⟩ := p4
    have a4 : CompAt C ow D H1 H4 ys w2 := a.step R1 hD k4 R4.st
    refine ⟨fun j k H => k = ds.length - j ∧ j ≤ ds.length ∧ Keep (fun b => SAd C.c.sa b ∨ b = D) H4 H ∧ ∃ zs w3 rest, CompAt C ow D H1 H (ys ++ zs) w3 ∧ cmLoop p t m (wipeR r vs) (ds.drop j) w3 = some (rest, w') ∧ tot = zs ++ rest,
      ⟨ds.length, by simp, Nat.zero_le _, .refl, [], w2, tot, by rw [List.append_nil]; exact a4, by rw [List.drop_zero]; exact em2, rfl⟩, ?_⟩
    rintro j k H5 ⟨rfl, hj, k5, zs, w3, rest, a5, e5, et⟩
    have pin5 : Pinned C.K H5 (fun b => Ow C.c.O0 ow b ∨ b = D) jp.2 := fun q hq => ((hpin q hq).keep k5 fun b hb => hb.elim (fun z => .inl (R.ok.sub b z)) fun z => .inl (.inr z)).weak fun b hb => .inl hb
    by_cases hj2 : j < ds.length
    · refine .inr ⟨wk.goes j H5 hj2 ⟨_, pin5⟩, fun H => Keep (fun b => SAd C.c.sa b ∨ b = D) H4 H ∧ ∃ zs w3 rest, CompAt C ow D H1 H (ys ++ zs) w3 ∧ cmLoop p t m (wipeR r vs) (ds.drop (j + 1)) w3 = some (rest, w') ∧ tot = zs ++ rest, fun H' hN2 => ⟨ds.length - (j + 1), by omega, rfl, hj2, hN2⟩, fun x H6 y => ?_⟩
      obtain ⟨sm, d, ed, pd⟩ := wk.yields j H5 x H6 hj2 ⟨_, pin5⟩ y _ (cm_dom R1 a5) pin5
      have ec : ds.drop j = d :: ds.drop (j + 1) := by
        rw [← List.getElem_cons_drop hj2]
        have : ds[j] = d := by
          rw [List.getElem?_eq_getElem hj2] at ed
          exact Option.some.inj ed
        rw [this]
      rw [ec] at e5
      have a6 : CompAt C ow D H1 H6 (ys ++ zs) w3 := a5.step R1 hD (.of_same sm) (a5.st.keep (M := fun _ => False) (.of_same sm) fun _ _ z => z)
      have k6 : Keep (fun b => SAd C.c.sa b ∨ b = D) H4 H6 := k5.trans (.of_same sm)
      have Rb := Rel.rebase (H5 := H6) (w5 := w3) R4 k6 (cm_dom R1 a6) a6.st vs
      refine cm_turn R1 hD hm hp Rb a6 pd e5 (by rw [et] at hl; rw [List.append_assoc]; exact hl) fun H' us w4 rest2 a' k' e' er => ⟨k6.trans k', zs ++ us, w4, rest2, by rw [← List.append_assoc]; exact a', e', by rw [et, er, List.append_assoc]⟩
    · have ej : j = ds.length := by omega
      subst ej
      rw [List.drop_length] at e5
      unfold cmLoop at e5
      cases e5
      rw [List.append_nil] at et
      subst et
      refine .inl ⟨wk.stops H5 ⟨_, pin5⟩, hN H5 a5 ((k4.mono fun b z => .inl z).trans k5)⟩
theorem red_lcN {σ : L2.St} {H : Hp} {Q : VK} {vs : List Nat} {fi : IM} {p : Pat} {t : TM} {m : CM} {body : Addr → Body} (hp : ∀ i ∈ slotsP p, i ∈ vs) (hm : ∀ (P0 : List (V × PyData)) (ow : Nat → Option Addr) (r0 : List SV) (w1 : DS) (σ0 : L2.St) (H1 : Hp) (D : Addr), C.Rl P0 ow r0 w1 σ0 H1 → H1 D = none → mOk C ow D H1 m (body D))
    (h : tD C (eLcN vs fi p t m) σ H Q) : tLcN (tI C fi) (fun v σ H Q => ∃ c, tP ⟨C.mg, C.K, c, WF⟩ p v σ H Q) (fun σ H Q => ∃ c, tT ⟨C.mg, C.K, c, WF⟩ t σ H Q) vs body σ H Q := by
  obtain ⟨P, ow, r, w, R, h⟩ := h
  refine ⟨P, ow, r, w, R, gE.bind h fun ds w1 jp H1 _ k1 R1 pj h1 => ?_⟩
  intro D hD
  obtain ⟨hpin, wk⟩ := pj
  obtain ⟨tot, wF, etot, hlen, h2⟩ : ∃ tot wF, cmLoop p t m (wipeR r vs) ds w1 = some (tot, wF) ∧ tot.length ≤ szL ∧ gE C (fD C) (.ok (.list tot) wF) P ow r σ H1 Q := by
    cases e : cmLoop p t m (wipeR r vs) ds w1 with
    | none => rw [e] at h1; exact h1.elim
    | some z =>
      obtain ⟨tot, wF⟩ := z
      rw [e] at h1
      have h3 : gE C (fD C) (if tot.length ≤ szL then .ok (.list tot) wF else .bad) P ow r σ H1 Q := h1
      by_cases hl : tot.length ≤ szL
      · rw [if_pos hl] at h3; exact ⟨tot, wF, rfl, hl, h3⟩
      · rw [if_neg hl] at h3; exact h3.elim
  have hm1 := hm P ow r w1 σ H1 D R1 hD
  refine ⟨fun i k H => k = ds.length - i ∧ i ≤ ds.length ∧ ∃ ys w' rest, CompAt C ow D H1 H ys w' ∧ cmLoop p t m (wipeR r vs) (ds.drop i) w' = some (rest, wF) ∧ tot = ys ++ rest,
    ⟨ds.length, by simp, Nat.zero_le _, [], w1, tot, ⟨⟨[], upd_same, .nil⟩, .new hD, R1.st.keep (M := fun _ => False) (.new hD) fun _ _ z => z⟩, by rw [List.drop_zero]; exact etot, rfl⟩, ?_⟩
  rintro i k H ⟨rfl, hile, ys, w', rest, a, erest, etot2⟩
  have pinH : Pinned C.K H (fun b => Ow C.c.O0 ow b ∨ b = D) jp.2 := fun q hq => ((hpin q hq).grow hD).keep a.keep fun b hb => .inl (R1.subO b hb)
  by_cases hi : i < ds.length
  · refine .inr ⟨wk.goes i H hi ⟨_, pinH⟩, fun H => ∃ ys w' rest, CompAt C ow D H1 H ys w' ∧ cmLoop p t m (wipeR r vs) (ds.drop (i + 1)) w' = some (rest, wF) ∧ tot = ys ++ rest, fun H' hN => ⟨ds.length - (i + 1), by omega, rfl, hi, hN⟩, fun x H' y => ?_⟩
    obtain ⟨sm, d, ed, pd⟩ := wk.yields i H x H' hi ⟨_, pinH⟩ y _ (cm_dom R1 a) pinH
    have ecs : ds.drop i = d :: ds.drop (i + 1) := by
      rw [← List.getElem_cons_drop hi]
      have : ds[i] = d := by
        rw [List.getElem?_eq_getElem hi] at ed
        exact Option.some.inj ed
      rw [this]
    rw [ecs] at erest
    have a' : CompAt C ow D H1 H' ys w' := a.step R1 hD (.of_same sm) (a.st.keep (M := fun _ => False) (.of_same sm) fun _ _ z => z)
    have hDd' : ∃ o, H' D = some o := let ⟨xs, hx, _⟩ := a'.acc; ⟨_, hx⟩
    have Rb := R1.blk hD a'.keep hDd' a'.st vs rfl
    exact cm_turn R1 hD hm1 hp Rb a' pd erest (by rw [etot2] at hlen; exact hlen) fun H2 us w4 rest2 a2 k2 e2 er => ⟨ys ++ us, w4, rest2, a2, e2, by rw [etot2, er, List.append_assoc]⟩
  · have ei : i = ds.length := by omega
    subst ei
    rw [List.drop_length] at erest
    unfold cmLoop at erest
    cases erest
    rw [List.append_nil] at etot2
    subst etot2
    obtain ⟨xs, hx, hd⟩ := a.acc
    exact .inl ⟨wk.stops H ⟨_, pinH⟩, h2 (.ref D) H a.keep (R1.after a.keep a.st) (.lst hx (R1.fresh hD) (hd.weak fun b hb => .inl hb))⟩
end
end DL

namespace DL
open L2 PySem PySem.Spec PyProof.Rows
section
variable {X : Cx} {c : Cn} {W : XW} {pos : Pos}
theorem tail2_ok {Y : Cx} {R : Result → Shared → Prop} {elt tg1 i1 : Expr} {c0 : Comprehension} {fs1 : List Expr} {scope : Scope} {vs1 : List Nat} {wi1 : TI} {g1 : TG} {tt1 : TT} {te : TE} {D : Addr} (hx : Y.xe = fun _ _ => False) (hc : Y.calm = true) (pi : PI Y tg1 i1 wi1) (pg : PG Y tg1 g1) (pt : PTs Y fs1 tt1) (pe : PE Y elt te) :
    TailOk Y vs1 (tailMid Y.prog Y.w Y.A Y.env R elt [c0, ⟨tg1, i1, fs1, 0⟩] scope pos 1 i1 (.ref D)) (bodyCl wi1 g1 tt1 vs1 (bodyEnd te D)) :=
  tailMid_ok (k := 0) (vs' := []) (tail := fun R => tailEnd Y.prog Y.w Y.A Y.env R elt (.ref D)) hx rfl (fun R it I turn n s h => loopEnd (k := 1) rfl rfl I turn n h) (fun R => tailEnd_ok hx pe) (fun i hi => by cases hi) hc pi pg pt
theorem dLc2 {elt tg iter tg1 iter1 : Expr} {fs fs1 : List Expr} {scope : Scope} {own : List (Str × Nat)} {vs1 : List Nat} {fi fi1 : IM} {p p1 : Pat} {t t1 : TM} {f : EM} (hc : X.calm = true) (hN : X.N.Nodup) (ok : BlkOk X.N X.env.scope scope own) (hv : ∀ i ∈ vs1, i ∈ own.map (·.2)) (hi : PI X tg iter (tI (dc X c W) fi)) (hp : ∀ i ∈ slotsP p, i ∈ own.map (·.2)) (hp1 : ∀ i ∈ slotsP p1, i ∈ vs1)
    (hg : ∀ (s : Shared) (H : Hp) (C : Addr) (cl : List (Str × Addr)) (fp : List Addr) (c : Cn), PG (X.blk s H scope (compEnvC scope cl C X.env) fp) tg (tP (dc (X.blk s H scope (compEnvC scope cl C X.env) fp) c WF) p))
    (ht : ∀ (s : Shared) (H : Hp) (C : Addr) (cl : List (Str × Addr)) (fp : List Addr) (c : Cn), PTs (X.blk s H scope (compEnvC scope cl C X.env) fp) fs (tT (dc (X.blk s H scope (compEnvC scope cl C X.env) fp) c WF) t))
    (hi1 : ∀ (s : Shared) (H : Hp) (C : Addr) (cl : List (Str × Addr)) (fp : List Addr) (c : Cn), PI (X.blk s H scope (compEnvC scope cl C X.env) fp) tg1 iter1 (tI (dc (X.blk s H scope (compEnvC scope cl C X.env) fp) c WF) fi1))
    (hg1 : ∀ (s : Shared) (H : Hp) (C : Addr) (cl : List (Str × Addr)) (fp : List Addr) (c : Cn), PG (X.blk s H scope (compEnvC scope cl C X.env) fp) tg1 (tP (dc (X.blk s H scope (compEnvC scope cl C X.env) fp) c WF) p1))
    (ht1 : ∀ (s : Shared) (H : Hp) (C : Addr) (cl : List (Str × Addr)) (fp : List Addr) (c : Cn), PTs (X.blk s H scope (compEnvC scope cl C X.env) fp) fs1 (tT (dc (X.blk s H scope (compEnvC scope cl C X.env) fp) c WF) t1))
    (he : ∀ (s : Shared) (H : Hp) (C : Addr) (cl : List (Str × Addr)) (fp : List Addr) (c : Cn), PE (X.blk s H scope (compEnvC scope cl C X.env) fp) elt (tD (dc (X.blk s H scope (compEnvC scope cl C X.env) fp) c WF) f))
    (hs : ∀ x, foldedSetIterable iter X.env x = pure x := by intro _; rfl) (hs1 : ∀ (env : Env) (x : Value), foldedSetIterable iter1 env x = pure x := by intro _ _; rfl) :
    PE X (.ListComp elt [⟨tg, iter, fs, 0⟩, ⟨tg1, iter1, fs1, 0⟩] scope pos) (tD (dc X c W) (eLcN (own.map (·.2)) fi p t (cmCl vs1 fi1 p1 t1 (cmEnd f)))) :=
  PE.imp (pe_lcN (vs' := vs1) (fun Y D R => tailMid Y.prog Y.w Y.A Y.env R elt [⟨tg, iter, fs, 0⟩, ⟨tg1, iter1, fs1, 0⟩] scope pos 1 iter1 (.ref D)) hc hN hi ok hv (fun s H C cl fp => pg_ex (hg s H C cl fp)) (fun s H C cl fp => pts_ex (ht s H C cl fp))
    (fun s H C cl fp D R => tail2_ok rfl hc (pi_ex (hi1 s H C cl fp)) (pg_ex (hg1 s H C cl fp)) (pts_ex (ht1 s H C cl fp)) (pe_ex (he s H C cl fp)))
    (fun Y D R it I turn n s h => loopMid (k := 0) rfl rfl (hs1 _) I turn n h) hs) fun _ _ _ => red_lcN hp fun P0 ow r0 w1 σ0 H1 D R1 hD => mOk_cl R1 hD (mOk_end R1 hD) hp1
theorem tail3_ok {Y : Cx} {R : Result → Shared → Prop} {elt tg1 i1 tg2 i2 : Expr} {c0 : Comprehension} {fs1 fs2 : List Expr} {scope : Scope} {vs1 vs2 : List Nat} {wi1 wi2 : TI} {g1 g2 : TG} {tt1 tt2 : TT} {te : TE} {D : Addr} (hx : Y.xe = fun _ _ => False) (hc : Y.calm = true) (hv : ∀ i ∈ vs2, i ∈ vs1) (hs2 : ∀ x, foldedSetIterable i2 Y.env x = pure x)
    (pi : PI Y tg1 i1 wi1) (pg : PG Y tg1 g1) (pt : PTs Y fs1 tt1) (pi2 : PI Y tg2 i2 wi2) (pg2 : PG Y tg2 g2) (pt2 : PTs Y fs2 tt2) (pe : PE Y elt te) :
    TailOk Y vs1 (tailMid Y.prog Y.w Y.A Y.env R elt [c0, ⟨tg1, i1, fs1, 0⟩, ⟨tg2, i2, fs2, 0⟩] scope pos 1 i1 (.ref D)) (bodyCl wi1 g1 tt1 vs1 (bodyCl wi2 g2 tt2 vs2 (bodyEnd te D))) :=
  tailMid_ok (k := 0) (vs' := vs2) (tail := fun R => tailMid Y.prog Y.w Y.A Y.env R elt [c0, ⟨tg1, i1, fs1, 0⟩, ⟨tg2, i2, fs2, 0⟩] scope pos 2 i2 (.ref D)) hx rfl (fun R it I turn n s h => loopMid (k := 1) rfl rfl hs2 I turn n h)
    (fun R => tailMid_ok (k := 1) (vs' := []) (tail := fun R => tailEnd Y.prog Y.w Y.A Y.env R elt (.ref D)) hx rfl (fun R it I turn n s h => loopEnd (k := 2) rfl rfl I turn n h) (fun R => tailEnd_ok hx pe) (fun i hi => by cases hi) hc pi2 pg2 pt2) hv hc pi pg pt
theorem dLc3 {elt tg iter tg1 iter1 tg2 iter2 : Expr} {fs fs1 fs2 : List Expr} {scope : Scope} {own : List (Str × Nat)} {vs1 vs2 : List Nat} {fi fi1 fi2 : IM} {p p1 p2 : Pat} {t t1 t2 : TM} {f : EM} (hc : X.calm = true) (hN : X.N.Nodup) (ok : BlkOk X.N X.env.scope scope own) (hv : ∀ i ∈ vs1, i ∈ own.map (·.2)) (hv2 : ∀ i ∈ vs2, i ∈ vs1) (hi : PI X tg iter (tI (dc X c W) fi)) (hp : ∀ i ∈ slotsP p, i ∈ own.map (·.2)) (hp1 : ∀ i ∈ slotsP p1, i ∈ vs1) (hp2 : ∀ i ∈ slotsP p2, i ∈ vs2)
    (hg : ∀ (s : Shared) (H : Hp) (C : Addr) (cl : List (Str × Addr)) (fp : List Addr) (c : Cn), PG (X.blk s H scope (compEnvC scope cl C X.env) fp) tg (tP (dc (X.blk s H scope (compEnvC scope cl C X.env) fp) c WF) p))
    (ht : ∀ (s : Shared) (H : Hp) (C : Addr) (cl : List (Str × Addr)) (fp : List Addr) (c : Cn), PTs (X.blk s H scope (compEnvC scope cl C X.env) fp) fs (tT (dc (X.blk s H scope (compEnvC scope cl C X.env) fp) c WF) t))
    (hi1 : ∀ (s : Shared) (H : Hp) (C : Addr) (cl : List (Str × Addr)) (fp : List Addr) (c : Cn), PI (X.blk s H scope (compEnvC scope cl C X.env) fp) tg1 iter1 (tI (dc (X.blk s H scope (compEnvC scope cl C X.env) fp) c WF) fi1))
    (hg1 : ∀ (s : Shared) (H : Hp) (C : Addr) (cl : List (Str × Addr)) (fp : List Addr) (c : Cn), PG (X.blk s H scope (compEnvC scope cl C X.env) fp) tg1 (tP (dc (X.blk s H scope (compEnvC scope cl C X.env) fp) c WF) p1))
    (ht1 : ∀ (s : Shared) (H : Hp) (C : Addr) (cl : List (Str × Addr)) (fp : List Addr) (c : Cn), PTs (X.blk s H scope (compEnvC scope cl C X.env) fp) fs1 (tT (dc (X.blk s H scope (compEnvC scope cl C X.env) fp) c WF) t1))
    (hi2 : ∀ (s : Shared) (H : Hp) (C : Addr) (cl : List (Str × Addr)) (fp : List Addr) (c : Cn), PI (X.blk s H scope (compEnvC scope cl C X.env) fp) tg2 iter2 (tI (dc (X.blk s H scope (compEnvC scope cl C X.env) fp) c WF) fi2))
    (hg2 : ∀ (s : Shared) (H : Hp) (C : Addr) (cl : List (Str × Addr)) (fp : List Addr) (c : Cn), PG (X.blk s H scope (compEnvC scope cl C X.env) fp) tg2 (tP (dc (X.blk s H scope (compEnvC scope cl C X.env) fp) c WF) p2))
    (ht2 : ∀ (s : Shared) (H : Hp) (C : Addr) (cl : List (Str × Addr)) (fp : List Addr) (c : Cn), PTs (X.blk s H scope (compEnvC scope cl C X.env) fp) fs2 (tT (dc (X.blk s H scope (compEnvC scope cl C X.env) fp) c WF) t2))
    (he : ∀ (s : Shared) (H : Hp) (C : Addr) (cl : List (Str × Addr)) (fp : List Addr) (c : Cn), PE (X.blk s H scope (compEnvC scope cl C X.env) fp) elt (tD (dc (X.blk s H scope (compEnvC scope cl C X.env) fp) c WF) f))
    (hs : ∀ x, foldedSetIterable iter X.env x = pure x := by intro _; rfl) (hs1 : ∀ (env : Env) (x : Value), foldedSetIterable iter1 env x = pure x := by intro _ _; rfl) (hs2 : ∀ (env : Env) (x : Value), foldedSetIterable iter2 env x = pure x := by intro _ _; rfl) :
    PE X (.ListComp elt [⟨tg, iter, fs, 0⟩, ⟨tg1, iter1, fs1, 0⟩, ⟨tg2, iter2, fs2, 0⟩] scope pos) (tD (dc X c W) (eLcN (own.map (·.2)) fi p t (cmCl vs1 fi1 p1 t1 (cmCl vs2 fi2 p2 t2 (cmEnd f))))) :=
  PE.imp (pe_lcN (vs' := vs1) (fun Y D R => tailMid Y.prog Y.w Y.A Y.env R elt [⟨tg, iter, fs, 0⟩, ⟨tg1, iter1, fs1, 0⟩, ⟨tg2, iter2, fs2, 0⟩] scope pos 1 iter1 (.ref D)) hc hN hi ok hv (fun s H C cl fp => pg_ex (hg s H C cl fp)) (fun s H C cl fp => pts_ex (ht s H C cl fp))
    (fun s H C cl fp D R => tail3_ok rfl hc hv2 (hs2 _) (pi_ex (hi1 s H C cl fp)) (pg_ex (hg1 s H C cl fp)) (pts_ex (ht1 s H C cl fp)) (pi_ex (hi2 s H C cl fp)) (pg_ex (hg2 s H C cl fp)) (pts_ex (ht2 s H C cl fp)) (pe_ex (he s H C cl fp)))
    (fun Y D R it I turn n s h => loopMid (k := 0) rfl rfl (hs1 _) I turn n h) hs) fun _ _ _ => red_lcN hp fun P0 ow r0 w1 σ0 H1 D R1 hD => mOk_cl R1 hD (mOk_cl R1 hD (mOk_end R1 hD) hp2) hp1
end
end DL

namespace DL
open L2 PySem PySem.Spec PyProof.Rows
section
variable {X : Cx}
theorem lcN_core {pins : List (Addr × Obj)} {s : Shared} {σ : L2.St} {H : Hp} {Q : VK} {elt tg iter : Expr} {fs : List Expr} {rest : List Comprehension} {scope : Scope} {own : List (Str × Nat)} {pos pos' : Pos} {wi : TI} {g : TG} {tt : TT} {vs' : List Nat} {body : Addr → Body} {use : Option (Value → Sem Unit)} {Qf : Value → Shared → Prop} (tail : Cx → Addr → (Result → Shared → Prop) → (Shared → Prop) → Shared → Prop)
    (I : Inv X pins σ H s)
    (hc : X.calm = true) (hN : X.N.Nodup) (hi : PI X tg iter wi) (ok : BlkOk X.N X.env.scope scope own) (sub : ∀ i ∈ vs', i ∈ own.map (·.2))
    (hg : ∀ (s : Shared) (H : Hp) (C : Addr) (cl : List (Str × Addr)) (fp : List Addr), PG (X.blk s H scope (compEnvC scope cl C X.env) fp) tg g) (ht : ∀ (s : Shared) (H : Hp) (C : Addr) (cl : List (Str × Addr)) (fp : List Addr), PTs (X.blk s H scope (compEnvC scope cl C X.env) fp) fs tt)
    (tk : ∀ (s : Shared) (H : Hp) (C : Addr) (cl : List (Str × Addr)) (fp : List Addr) (D : Addr) (R : Result → Shared → Prop), TailOk (X.blk s H scope (compEnvC scope cl C X.env) fp) vs' (tail (X.blk s H scope (compEnvC scope cl C X.env) fp) D R) (body D))
    (rule : ∀ (Y : Cx) (D : Addr) (R : Result → Shared → Prop) (it : Addr) (I : Nat → Shared → Prop), (∀ n s, I n s → turnW Y.prog Y.w Y.A Y.env R tg fs (.ref it) (tail Y D R) (fun s' => ∃ m, m < n ∧ I m s') s) → ∀ n s, I n s → codeAny (model Y.prog Y.w) Y.A (.compLoop (.ListComp elt (⟨tg, iter, fs, 0⟩ :: rest) scope pos) 0 (.ref it) (.ref D) Y.env) R s)
    (hs : ∀ x, foldedSetIterable iter X.env x = pure x) (h : tLcN wi g tt (own.map (·.2)) body σ H Q)
    (hRR : ∀ D C s' m H', Inv X pins σ H' s' → Q (.ref D) H' → s'.heap.Ns C m → FpOk X pins H' C → compPost (model X.prog X.w) X.A X.xe use Qf (.ref D) C (.ok .next) s') :
    wpAny (model X.prog X.w) X.A (comprehension (.ListComp elt (⟨tg, iter, fs, 0⟩ :: rest) scope pos) scope X.env pos' (newList []) false (eval iter X.env) use) Qf X.xe s := by
  have cells : ∀ y ∈ scope.names, y.2 = .free → ∃ c, X.env.cells.lookup y.1 = some c := by
    intro y hy e
    exact I.ok.has _ ((ok.free y hy e).imp id id)
  refine wpAny_comprehension_free (use := use) rfl hs (closure_ok cells) ok.kind (fun y hy e => by rw [ok.uniq y hy, e]) ?_
  refine thn (hi.run pins s σ H _ I h) fun xv s1 hx => thn hx fun itv s2 ⟨it, fp, tn, J, H2, eit, I2, T, st2, f2, q⟩ => ?_
  subst eit
  have nD : H2 s2.heap.objs.size = none := I2.hok.fresh (Nat.le_refl _)
  obtain ⟨W, ⟨n0, w0⟩, hW⟩ := q _ nD
  refine wpAny_newObj_type (newEnv_comp ?_) (by show 0 ≤ sizeLine; decide)
  -- the new list stands
  have kD : ∀ b o, s2.heap.get? b = some o → (s2.heap.push { cls := .type "list", data := .seq ([] : List Value).toArray }).get? b = some o := fun b o e => Heap.get?_push_of_some _ e
  generalize eS3 : ({ s2 with heap := s2.heap.push { cls := .type "list", data := .seq ([] : List Value).toArray } } : Shared) = s3
  generalize eH3 : upd H2 s2.heap.objs.size (.lst []) = H3 at w0
  have I3 : Inv X pins σ H3 s3 := by
    rw [← eS3, ← eH3]
    exact I2.laid (t' := s2.toks) kD (Nat.le_refl _) ⟨Nat.zero_le _, [], 0, .nil, Heap.get?_push_size _ rfl⟩
  have hp3 : s3.heap = s2.heap.push { cls := .type "list", data := .seq ([] : List Value).toArray } := by rw [← eS3]
  have f3 : ∀ b ∈ fp, FpOk X pins H3 b ∧ b < s3.heap.objs.size := by
    intro b hb
    obtain ⟨o, e, _⟩ := T.obj _ _ st2 b hb
    have lt : b < s2.heap.objs.size := Heap.lt_size e
    obtain ⟨a1, a2⟩ := f2 b hb
    refine ⟨⟨?_, a2⟩, ?_⟩
    · rw [← eH3, upd_ne (Nat.ne_of_lt lt)]
      exact a1
    · rw [hp3, Heap.size_push]
      exact Nat.lt_succ_of_lt lt
  have I4 := block_start I3 ok hN f3
  have g4 := hg s3 H3 s3.heap.objs.size (cellsFrom (s3.heap.objs.size + 1) scope.names (cloFrom X.env.cells scope.names [])) fp
  have t4 := ht s3 H3 s3.heap.objs.size (cellsFrom (s3.heap.objs.size + 1) scope.names (cloFrom X.env.cells scope.names [])) fp
  have k4 := tk s3 H3 s3.heap.objs.size (cellsFrom (s3.heap.objs.size + 1) scope.names (cloFrom X.env.cells scope.names [])) fp s2.heap.objs.size
  have st4 : tn 0 (pushCells (s3.heap.push { cls := .type "dict", data := .dict #[] }) scope.names) := T.keep _ _ _ st2 fun b _ o e => pushCells_keeps _ _ _ _ (Heap.get?_push_of_some _ (hp3 ▸ kD b o e))
  have lp := clause_loop (R := compPost (model X.prog X.w) X.A X.xe use Qf (.ref s2.heap.objs.size) s3.heap.objs.size) (σ0 := σ) rfl (rule _ s2.heap.objs.size _ it) (k4 _) sub hc T g4 t4 hW I4 st4 (fun b hb => (f3 b hb).1.1) w0 (fun σ' H' s' I' hn => blk_fp I' hn) fun H' s' I' hq => ?_
  · exact codeAny_compStart_list lp (T.self X.A 0 _ _ _ st4 lp)
  · -- back in the frame
    have I7 : Inv X pins σ H' s' := I3.call' (ch := fp) I'.os I'.base I'.hok I'.bare fun b hb => by
      obtain ⟨⟨_, a2, _, a4, a5, a6⟩, _⟩ := f3 b hb
      exact ⟨a4, a2, a5, a6⟩
    have nC : H' s3.heap.objs.size = none := I'.free
    obtain ⟨m, hn, _⟩ := I'.loc
    exact hRR s2.heap.objs.size s3.heap.objs.size s' m H' I7 hq hn (I3.fpOk (H' := H') (Nat.le_refl _) nC)
/-- y = [..] on one line, any number of clauses -/
theorem ps_setLcN {i : Nat} {y : Str} {py spos : Pos} {elt tg iter : Expr} {fs : List Expr} {rest : List Comprehension} {scope : Scope} {own : List (Str × Nat)} {pos : Pos} {wi : TI} {g : TG} {tt : TT} {vs' : List Nat} {body : Addr → Body} (tail : Cx → Addr → (Result → Shared → Prop) → (Shared → Prop) → Shared → Prop)
    (hy : X.N[i]? = some y) (hyl : X.env.scope.names.lookup y = some .local) (hsw : swapsWith (.ListComp elt (⟨tg, iter, fs, 0⟩ :: rest) scope pos) (some (.Name y py)) spos.line X.env = pure true)
    (hc : X.calm = true) (hN : X.N.Nodup) (hi : PI X tg iter wi) (ok : BlkOk X.N X.env.scope scope own) (sub : ∀ i ∈ vs', i ∈ own.map (·.2))
    (hg : ∀ (s : Shared) (H : Hp) (C : Addr) (cl : List (Str × Addr)) (fp : List Addr), PG (X.blk s H scope (compEnvC scope cl C X.env) fp) tg g) (ht : ∀ (s : Shared) (H : Hp) (C : Addr) (cl : List (Str × Addr)) (fp : List Addr), PTs (X.blk s H scope (compEnvC scope cl C X.env) fp) fs tt)
    (tk : ∀ (s : Shared) (H : Hp) (C : Addr) (cl : List (Str × Addr)) (fp : List Addr) (D : Addr) (R : Result → Shared → Prop), TailOk (X.blk s H scope (compEnvC scope cl C X.env) fp) vs' (tail (X.blk s H scope (compEnvC scope cl C X.env) fp) D R) (body D))
    (rule : ∀ (Y : Cx) (D : Addr) (R : Result → Shared → Prop) (it : Addr) (I : Nat → Shared → Prop), (∀ n s, I n s → turnW Y.prog Y.w Y.A Y.env R tg fs (.ref it) (tail Y D R) (fun s' => ∃ m, m < n ∧ I m s') s) → ∀ n s, I n s → codeAny (model Y.prog Y.w) Y.A (.compLoop (.ListComp elt (⟨tg, iter, fs, 0⟩ :: rest) scope pos) 0 (.ref it) (.ref D) Y.env) R s)
    (hs : ∀ x, foldedSetIterable iter X.env x = pure x := by intro _; rfl) :
    PS X (.Assign [.Name y py] (.ListComp elt (⟨tg, iter, fs, 0⟩ :: rest) scope pos) spos) (tAsg (tLcN wi g tt (own.map (·.2)) body) (gName i)) := by
  refine ⟨fun pins s σ H D I h => ?_⟩
  rw [exec_Assign_Name_used _ _ _ _ hsw]
  refine wpAny_bind (wpAny_standAt (wpAny_bind ?_))
  show wpAny _ X.A (do let _ ← comprehension (.ListComp elt (⟨tg, iter, fs, 0⟩ :: rest) scope pos) scope X.env (firstIterPos (⟨tg, iter, fs, 0⟩ :: rest) pos) (newList []) false (eval iter X.env) (some (assign (.Name y py) X.env))) _ _ s
  have h : tLcN wi g tt (own.map (·.2)) body σ H (fun x H1 => gName i x σ H1 D.nx) := h
  refine wpAny_bind (thn (lcN_core (Qf := fun _ s' => SP X pins D .next s') tail I hc hN hi ok sub hg ht tk rule hs h fun L C s' m H' I' q hn f => ?_) fun _ s' hq => wpAny_pure (wpAny_pure hq))
  show wpAny _ _ (assign (.Name y py) X.env (.ref L)) _ _ _
  refine wpAny_assign_Name (store_ok2 (v := V.ref L) I' hN hy (.inl hyl) rfl (fun s2 I2 ⟨a, sb, ha⟩ => ?_) (.inr hyl))
  obtain ⟨f0, f1, f2, f3, f4, f5⟩ := f
  have off : C ≠ a := by
    rcases ha with z | z
    · rw [z]; exact f1
    · exact fun e => f4 y a z e.symm
  refine ⟨m, hn.sameBut sb off, fun h3 sb3 => ?_⟩
  exact ⟨_, H', I2.turned (t' := s2.toks) (fun b o hb e => (sb3.2 b hb).trans e) f0 f1 f3 f4 f5, q⟩
end
section
variable {X : Cx} {c : Cn} {W : XW} {pos : Pos}
theorem stLc2 {i : Nat} {y : Str} {py spos : Pos} {elt tg iter tg1 iter1 : Expr} {fs fs1 : List Expr} {scope : Scope} {own : List (Str × Nat)} {vs1 : List Nat} {fi fi1 : IM} {p p1 : Pat} {t t1 : TM} {f : EM} (hc : X.calm = true) (hN : X.N.Nodup) (hy : X.N[i]? = some y) (hyl : X.env.scope.names.lookup y = some .local) (hsw : swapsWith (.ListComp elt [⟨tg, iter, fs, 0⟩, ⟨tg1, iter1, fs1, 0⟩] scope pos) (some (.Name y py)) spos.line X.env = pure true) (ok : BlkOk X.N X.env.scope scope own) (hv : ∀ i ∈ vs1, i ∈ own.map (·.2)) (hi : PI X tg iter (tI (dc X c W) fi)) (hp : ∀ i ∈ slotsP p, i ∈ own.map (·.2)) (hp1 : ∀ i ∈ slotsP p1, i ∈ vs1)
    (hg : ∀ (s : Shared) (H : Hp) (C : Addr) (cl : List (Str × Addr)) (fp : List Addr) (c : Cn), PG (X.blk s H scope (compEnvC scope cl C X.env) fp) tg (tP (dc (X.blk s H scope (compEnvC scope cl C X.env) fp) c WF) p))
    (ht : ∀ (s : Shared) (H : Hp) (C : Addr) (cl : List (Str × Addr)) (fp : List Addr) (c : Cn), PTs (X.blk s H scope (compEnvC scope cl C X.env) fp) fs (tT (dc (X.blk s H scope (compEnvC scope cl C X.env) fp) c WF) t))
    (hi1 : ∀ (s : Shared) (H : Hp) (C : Addr) (cl : List (Str × Addr)) (fp : List Addr) (c : Cn), PI (X.blk s H scope (compEnvC scope cl C X.env) fp) tg1 iter1 (tI (dc (X.blk s H scope (compEnvC scope cl C X.env) fp) c WF) fi1))
    (hg1 : ∀ (s : Shared) (H : Hp) (C : Addr) (cl : List (Str × Addr)) (fp : List Addr) (c : Cn), PG (X.blk s H scope (compEnvC scope cl C X.env) fp) tg1 (tP (dc (X.blk s H scope (compEnvC scope cl C X.env) fp) c WF) p1))
    (ht1 : ∀ (s : Shared) (H : Hp) (C : Addr) (cl : List (Str × Addr)) (fp : List Addr) (c : Cn), PTs (X.blk s H scope (compEnvC scope cl C X.env) fp) fs1 (tT (dc (X.blk s H scope (compEnvC scope cl C X.env) fp) c WF) t1))
    (he : ∀ (s : Shared) (H : Hp) (C : Addr) (cl : List (Str × Addr)) (fp : List Addr) (c : Cn), PE (X.blk s H scope (compEnvC scope cl C X.env) fp) elt (tD (dc (X.blk s H scope (compEnvC scope cl C X.env) fp) c WF) f))
    (hs : ∀ x, foldedSetIterable iter X.env x = pure x := by intro _; rfl) (hs1 : ∀ (env : Env) (x : Value), foldedSetIterable iter1 env x = pure x := by intro _ _; rfl) :
    PS X (.Assign [.Name y py] (.ListComp elt [⟨tg, iter, fs, 0⟩, ⟨tg1, iter1, fs1, 0⟩] scope pos) spos) (tS (dc X c W) (sSet i (eLcN (own.map (·.2)) fi p t (cmCl vs1 fi1 p1 t1 (cmEnd f))))) :=
  PS.imp (ps_setLcN (vs' := vs1) (fun Y D R => tailMid Y.prog Y.w Y.A Y.env R elt [⟨tg, iter, fs, 0⟩, ⟨tg1, iter1, fs1, 0⟩] scope pos 1 iter1 (.ref D)) hy hyl hsw hc hN hi ok hv (fun s H C cl fp => pg_ex (hg s H C cl fp)) (fun s H C cl fp => pts_ex (ht s H C cl fp))
    (fun s H C cl fp D R => tail2_ok rfl hc (pi_ex (hi1 s H C cl fp)) (pg_ex (hg1 s H C cl fp)) (pts_ex (ht1 s H C cl fp)) (pe_ex (he s H C cl fp)))
    (fun Y D R it I turn n s h => loopMid (k := 0) rfl rfl (hs1 _) I turn n h) hs) fun D σ H h => red_lcN hp (fun P0 ow r0 w1 σ0 H1 D R1 hD => mOk_cl R1 hD (mOk_end R1 hD) hp1) (red_set h)
theorem stLc3 {i : Nat} {y : Str} {py spos : Pos} {elt tg iter tg1 iter1 tg2 iter2 : Expr} {fs fs1 fs2 : List Expr} {scope : Scope} {own : List (Str × Nat)} {vs1 vs2 : List Nat} {fi fi1 fi2 : IM} {p p1 p2 : Pat} {t t1 t2 : TM} {f : EM} (hc : X.calm = true) (hN : X.N.Nodup) (hy : X.N[i]? = some y) (hyl : X.env.scope.names.lookup y = some .local) (hsw : swapsWith (.ListComp elt [⟨tg, iter, fs, 0⟩, ⟨tg1, iter1, fs1, 0⟩, ⟨tg2, iter2, fs2, 0⟩] scope pos) (some (.Name y py)) spos.line X.env = pure true) (ok : BlkOk X.N X.env.scope scope own) (hv : ∀ i ∈ vs1, i ∈ own.map (·.2)) (hv2 : ∀ i ∈ vs2, i ∈ vs1) (hi : PI X tg iter (tI (dc X c W) fi)) (hp : ∀ i ∈ slotsP p, i ∈ own.map (·.2)) (hp1 : ∀ i ∈ slotsP p1, i ∈ vs1) (hp2 : ∀ i ∈ slotsP p2, i ∈ vs2)
    (hg : ∀ (s : Shared) (H : Hp) (C : Addr) (cl : List (Str × Addr)) (fp : List Addr) (c : Cn), PG (X.blk s H scope (compEnvC scope cl C X.env) fp) tg (tP (dc (X.blk s H scope (compEnvC scope cl C X.env) fp) c WF) p))
    (ht : ∀ (s : Shared) (H : Hp) (C : Addr) (cl : List (Str × Addr)) (fp : List Addr) (c : Cn), PTs (X.blk s H scope (compEnvC scope cl C X.env) fp) fs (tT (dc (X.blk s H scope (compEnvC scope cl C X.env) fp) c WF) t))
    (hi1 : ∀ (s : Shared) (H : Hp) (C : Addr) (cl : List (Str × Addr)) (fp : List Addr) (c : Cn), PI (X.blk s H scope (compEnvC scope cl C X.env) fp) tg1 iter1 (tI (dc (X.blk s H scope (compEnvC scope cl C X.env) fp) c WF) fi1))
    (hg1 : ∀ (s : Shared) (H : Hp) (C : Addr) (cl : List (Str × Addr)) (fp : List Addr) (c : Cn), PG (X.blk s H scope (compEnvC scope cl C X.env) fp) tg1 (tP (dc (X.blk s H scope (compEnvC scope cl C X.env) fp) c WF) p1))
    (ht1 : ∀ (s : Shared) (H : Hp) (C : Addr) (cl : List (Str × Addr)) (fp : List Addr) (c : Cn), PTs (X.blk s H scope (compEnvC scope cl C X.env) fp) fs1 (tT (dc (X.blk s H scope (compEnvC scope cl C X.env) fp) c WF) t1))
    (hi2 : ∀ (s : Shared) (H : Hp) (C : Addr) (cl : List (Str × Addr)) (fp : List Addr) (c : Cn), PI (X.blk s H scope (compEnvC scope cl C X.env) fp) tg2 iter2 (tI (dc (X.blk s H scope (compEnvC scope cl C X.env) fp) c WF) fi2))
    (hg2 : ∀ (s : Shared) (H : Hp) (C : Addr) (cl : List (Str × Addr)) (fp : List Addr) (c : Cn), PG (X.blk s H scope (compEnvC scope cl C X.env) fp) tg2 (tP (dc (X.blk s H scope (compEnvC scope cl C X.env) fp) c WF) p2))
    (ht2 : ∀ (s : Shared) (H : Hp) (C : Addr) (cl : List (Str × Addr)) (fp : List Addr) (c : Cn), PTs (X.blk s H scope (compEnvC scope cl C X.env) fp) fs2 (tT (dc (X.blk s H scope (compEnvC scope cl C X.env) fp) c WF) t2))
    (he : ∀ (s : Shared) (H : Hp) (C : Addr) (cl : List (Str × Addr)) (fp : List Addr) (c : Cn), PE (X.blk s H scope (compEnvC scope cl C X.env) fp) elt (tD (dc (X.blk s H scope (compEnvC scope cl C X.env) fp) c WF) f))
    (hs : ∀ x, foldedSetIterable iter X.env x = pure x := by intro _; rfl) (hs1 : ∀ (env : Env) (x : Value), foldedSetIterable iter1 env x = pure x := by intro _ _; rfl) (hs2 : ∀ (env : Env) (x : Value), foldedSetIterable iter2 env x = pure x := by intro _ _; rfl) :
    PS X (.Assign [.Name y py] (.ListComp elt [⟨tg, iter, fs, 0⟩, ⟨tg1, iter1, fs1, 0⟩, ⟨tg2, iter2, fs2, 0⟩] scope pos) spos) (tS (dc X c W) (sSet i (eLcN (own.map (·.2)) fi p t (cmCl vs1 fi1 p1 t1 (cmCl vs2 fi2 p2 t2 (cmEnd f)))))) :=
  PS.imp (ps_setLcN (vs' := vs1) (fun Y D R => tailMid Y.prog Y.w Y.A Y.env R elt [⟨tg, iter, fs, 0⟩, ⟨tg1, iter1, fs1, 0⟩, ⟨tg2, iter2, fs2, 0⟩] scope pos 1 iter1 (.ref D)) hy hyl hsw hc hN hi ok hv (fun s H C cl fp => pg_ex (hg s H C cl fp)) (fun s H C cl fp => pts_ex (ht s H C cl fp))
    (fun s H C cl fp D R => tail3_ok rfl hc hv2 (hs2 _) (pi_ex (hi1 s H C cl fp)) (pg_ex (hg1 s H C cl fp)) (pts_ex (ht1 s H C cl fp)) (pi_ex (hi2 s H C cl fp)) (pg_ex (hg2 s H C cl fp)) (pts_ex (ht2 s H C cl fp)) (pe_ex (he s H C cl fp)))
    (fun Y D R it I turn n s h => loopMid (k := 0) rfl rfl (hs1 _) I turn n h) hs) fun D σ H h => red_lcN hp (fun P0 ow r0 w1 σ0 H1 D R1 hD => mOk_cl R1 hD (mOk_cl R1 hD (mOk_end R1 hD) hp2) hp1) (red_set h)
end
end DL

namespace DL
open L2 PySem PySem.Spec PyProof.Rows
section
variable {X : Cx} {c : Cn} {W : XW}
/-- list(range(a)) as data -/
theorem dLstRg {a : Expr} {f : EM} {p p2 pos pos2 : Pos} (hc : X.calm = true) (hg : Gl X "list") (hm : X.mg "list" = none) (hg2 : Gl X "range") (hm2 : X.mg "range" = none) (ha : PE X a (tD (dc X c W) f)) (na : starEach [a] X.env = (false, eval a X.env) :: starEach [] X.env := by rfl)
    (na2 : starEach [.Call (.Name "range" p2) [a] [] pos2] X.env = (false, eval (.Call (.Name "range" p2) [a] [] pos2) X.env) :: starEach [] X.env := by rfl) : PE X (.Call (.Name "list" p) [.Call (.Name "range" p2) [a] [] pos2] [] pos) (tD (dc X c W) (eLst (itRg1 f))) :=
  PE.imp (frRg hc hg hm hg2 hm2 ha na na2) fun _ _ _ => red_lst
/-- try: .. except .., where nothing is raised -/
theorem stTry {body : List Stmt} {h₀ : ExceptHandler} {hs : List ExceptHandler} {pos : Pos} {m : SM} (hn : ∀ e s, ¬ X.xe e s) (hb : PSs X body (tS (dc X c W) m)) : PS X (.Try body (h₀ :: hs) [] [] pos) (tS (dc X c W) m) :=
  ps_try_never (u := tNext) hn hb pss_nil
end
end DL

namespace DL
open L2 PySem PySem.Spec PyProof.Rows
open PySem.W (AlikeAll readsAll_len readsAll_at cmpIn_lt moved_old argBest_fold iter_listW dataLt)
open PySem.SeqAt
/-! ## min of a list of pairs of ints -/
section
variable {prog : Program} {w : World} {A : Around} {E : Value → Shared → Prop} {s : Shared}
/-- which item it is -/
theorem min_at {l : Addr} {vs : Array Value} {x : PyData} {xs : List PyData} {as : List Addr} {Q : Value → Shared → Prop} (hh : A.handled = none) (hl : s.heap.IsList l vs) (hr : ReadsAll s.heap vs.toList (x :: xs) as) (ha : AlikeAll (x :: xs)) (hu : A.units + 1 + PyData.depthAll (x :: xs) < cLine)
    (h : ∀ (i : Nat) v h' tk, vs[i]? = some v → (x :: xs)[i]? = some (PySem.W.minD x xs) → (∀ b o, s.heap.get? b = some o → h'.get? b = some o) → Q v { s with heap := h', toks := tk }) :
    wpAny (model prog w) A (call (.builtin "min") [.ref l]) Q E s := by
  have hn : vs.size = xs.length + 1 := readsAll_len hr
  refine call_min_walkH (iter_listW (A := A.in1) hh hl fun s₂ e W st hfp hw hk => ?_)
  refine ⟨_, _, _, _, _, _, _, s.heap, _, rfl, W, st, hfp, by omega, hw, hk, cmpIn_lt (A := A.in1) hr ha (by show A.units + 1 + _ < _; exact hu), fun v s' hP m => ?_⟩
  obtain ⟨h', tk, rfl, hk'⟩ := moved_old e rfl m
  have e1 : vs.size - 1 = xs.length := by omega
  obtain ⟨e0, e2⟩ := argBest_fold dataLt PyData.none x xs xs.length (Nat.le_refl _)
  rw [List.take_length] at e2
  rw [e1] at hP
  refine h _ v h' tk hP ?_ hk'
  unfold PySem.W.minD
  rw [← e2, List.getD_eq_getElem?_getD, List.getElem?_eq_getElem (by rw [List.length_cons]; omega)]
  rfl
end
theorem toPr_mem : ∀ (ds : List PyData) (ps : List (Int × Int)), toPr ds = some ps → ∀ d ∈ ds, ∃ a b : Int, d = .tuple [.int a, .int b]
  | [], _, _, _, h => by cases h
  | d :: ds, ps, e, x, h => by
    match d, e with
    | .tuple [.int a, .int b], e =>
      rcases List.mem_cons.mp h with rfl | h
      · exact ⟨a, b, rfl⟩
      · cases e2 : toPr ds with
        | none => rw [toPr, e2] at e; cases e
        | some qs => exact toPr_mem ds qs e2 x h
theorem pairs_alike {ds : List PyData} (h : ∀ d ∈ ds, ∃ a b : Int, d = .tuple [.int a, .int b]) : AlikeAll ds ∧ PyData.depthAll ds ≤ 1 ∧ PyData.hasDictAll ds = false := by
  refine ⟨⟨fun x hx y hy => ?_, fun x hx => ?_⟩, ?_, ?_⟩
  · obtain ⟨a, b, rfl⟩ := h x hx
    obtain ⟨c, d, rfl⟩ := h y hy
    rfl
  · obtain ⟨a, b, rfl⟩ := h x hx
    exact fun e => nomatch e
  · induction ds with
    | nil => exact Nat.zero_le _
    | cons d r ih =>
      obtain ⟨a, b, rfl⟩ := h d (List.mem_cons_self ..)
      have := ih fun x hx => h x (List.mem_cons_of_mem _ hx)
      unfold PyData.depthAll
      exact Nat.max_le.mpr ⟨Nat.le_refl _, this⟩
  · induction ds with
    | nil => rfl
    | cons d r ih =>
      obtain ⟨a, b, rfl⟩ := h d (List.mem_cons_self ..)
      have := ih fun x hx => h x (List.mem_cons_of_mem _ hx)
      simp [PyData.hasDictAll, PyData.hasDict, this]
def minPD : List PyData → Option PyData
  | [.list (d :: ds)] => (toPr (d :: ds)).bind fun _ => some (PySem.W.minD d ds)
  | _ => none
theorem DoAll.at {K : PySem.W.Frag} {H : Hp} {O : Addr → Prop} : ∀ {xs : List V} {ds : List PyData} {i : Nat} {d : PyData}, DoAll K H O xs ds → ds[i]? = some d → ∃ x, xs[i]? = some x ∧ Do K H O x d
  | _, _, 0, d, .cons h _, e => ⟨_, rfl, by cases e; exact h⟩
  | _, _, i + 1, d, .cons _ t, e => by
    obtain ⟨x, h1, h2⟩ := DoAll.at (i := i) t (by simpa using e)
    exact ⟨x, by simpa using h1, h2⟩
section
variable {X : Cx}
def rMinP (K : PySem.W.Frag) : List V → Hp → VK → Prop := fun xs H Q => ∃ (a : Addr) (ys : List V) (d : PyData) (ds : List PyData), xs = [V.ref a] ∧ SqL K H a ys ∧ DpAll K H ys (d :: ds) ∧ (∀ e ∈ d :: ds, ∃ a b : Int, e = .tuple [.int a, .int b]) ∧
  ∀ (i : Nat) x, ys[i]? = some x → (d :: ds)[i]? = some (PySem.W.minD d ds) → Q x H
theorem cr_minP (hc : X.calm = true) (hu : X.A.units + 64 < cLine) : CallR X (.builtin "min") (rMinP X.K) := by
  intro pins s σ H vs us Q I r h
  obtain ⟨a, ys, d, ds, rfl, hs, hd, hp, q⟩ := h
  obtain ⟨its, rv, hl, _⟩ := I.list hs
  obtain ⟨as, ra⟩ := Dp.readsAll I _ _ its hd rv
  obtain ⟨al, dp, _⟩ := pairs_alike hp
  rw [Vals.ref1 r]
  refine min_at (I.ok.hd hc) hl.isList (by simpa using ra) al (by omega) fun i v h' tk hv hm hk => ?_
  cases hy : ys[i]? with
  | none =>
    have := Vals.none_of rv hy
    rw [show its.toArray[i]? = its[i]? from by simp, this] at hv
    cases hv
  | some x =>
    obtain ⟨u, hu2, rx⟩ := Vals.get rv hy
    rw [show its.toArray[i]? = its[i]? from by simp, hu2] at hv
    cases hv
    exact ⟨x, H, I.kept hk, rx, q i x hy hm⟩
theorem c_minP (hc : X.calm = true) (hu : X.A.units + 64 < cLine) : CallR X (.builtin "min") (rDs X.K minPD) := by
  refine data_call (cr_minP hc hu) fun xs H Q ds z O dom hd hg q => ?_
  match ds, hg, hd with
  | [.list (d :: ys)], hg, hd =>
    obtain ⟨v, rfl, p⟩ := one_do hd
    have hg1 : ((toPr (d :: ys)).bind fun _ => some (PySem.W.minD d ys)) = some z := hg
    cases e : toPr (d :: ys) with
    | none => rw [e] at hg1; cases hg1
    | some ps =>
      rw [e] at hg1
      cases hg1
      have hp := toPr_mem _ _ e
      cases p with
      | @lst a xs _ hx n ha =>
        refine ⟨a, xs, d, ys, rfl, SqL.of hx, ha.dp (pairs_alike hp).2.2, hp, fun i x h1 h2 => ?_⟩
        obtain ⟨x2, h3, h4⟩ := DoAll.at ha h2
        rw [h1] at h3
        cases h3
        exact q _ _ (Same.refl _) h4
end
end DL

namespace DL
open L2 PySem PySem.Spec PyProof.Rows
/-! ## laying a table clean -/
def OkM (m : Nat) : Prop := m = 7 ∨ m = 15 ∨ m = 31
def lc (m i : Nat) : Nat := (i * 5 + 1) % (m + 1)
def lcN (m : Nat) : Nat → Nat → Nat
  | 0, i => i
  | t + 1, i => lcN m t (lc m i)
def covers (m : Nat) : Bool := (List.range (m + 1)).all fun i => (List.range (m + 1)).all fun j => (List.range (m + 1)).any fun t => lcN m t i == j
theorem cov7 : covers 7 = true := by decide +kernel
theorem cov15 : covers 15 = true := by decide +kernel
theorem cov31 : covers 31 = true := by decide +kernel
theorem cover {m : Nat} (h : OkM m) {i j : Nat} (hi : i ≤ m) (hj : j ≤ m) : ∃ t, t ≤ m ∧ lcN m t i = j := by
  have c : covers m = true := by
    rcases h with rfl | rfl | rfl
    · exact cov7
    · exact cov15
    · exact cov31
  have c1 := List.all_eq_true.mp (List.all_eq_true.mp c i (List.mem_range.mpr (by omega))) j (List.mem_range.mpr (by omega))
  obtain ⟨t, ht, e⟩ := List.any_eq_true.mp c1
  have := List.mem_range.mp ht
  exact ⟨t, by omega, by simpa using e⟩
def sq (m : Nat) : Nat × Nat → Nat → Nat × Nat
  | x, 0 => x
  | x, t + 1 => sq m (SetTable.leap m x.1 x.2) t
theorem sq_add (m : Nat) : ∀ (a b : Nat) (x : Nat × Nat), sq m x (a + b) = sq m (sq m x a) b
  | 0, b, x => by rw [Nat.zero_add]; rfl
  | a + 1, b, x => by
    rw [show a + 1 + b = (a + b) + 1 by omega]
    exact sq_add m a b (SetTable.leap m x.1 x.2)
theorem sq_snd (m : Nat) : ∀ (t : Nat) (x : Nat × Nat), (sq m x t).2 = x.2 / 32 ^ t
  | 0, x => by simp [sq]
  | t + 1, x => by
    show (sq m (SetTable.leap m x.1 x.2) t).2 = _
    rw [sq_snd m t]
    show x.2 / 32 / 32 ^ t = _
    rw [Nat.div_div_eq_div_mul, Nat.pow_succ, Nat.mul_comm]
theorem sq_le (m : Nat) : ∀ (t : Nat) (x : Nat × Nat), (sq m x (t + 1)).1 ≤ m
  | 0, x => by
    show (x.1 * 5 + 1 + x.2 / 32) % (m + 1) ≤ m
    exact Nat.le_of_lt_succ (Nat.mod_lt (x.1 * 5 + 1 + x.2 / 32) (Nat.succ_pos m))
  | t + 1, x => sq_le m t (SetTable.leap m x.1 x.2)
theorem sq_zero (m : Nat) : ∀ (t i : Nat), sq m (i, 0) t = (lcN m t i, 0)
  | 0, i => rfl
  | t + 1, i => by
    have e : SetTable.leap m i 0 = (lc m i, 0) := by
      show ((i * 5 + 1 + 0 / 32) % (m + 1), 0 / 32) = ((i * 5 + 1) % (m + 1), 0)
      rw [Nat.zero_div, Nat.add_zero]
    show sq m (SetTable.leap m i 0) t = _
    rw [e]
    exact sq_zero m t (lc m i)
def isF (owner : Array (Option Nat)) (j : Nat) : Bool := (owner.getD j (some 0)).isNone
theorem free_eq (m : Nat) (owner : Array (Option Nat)) (f i p : Nat) : SetTable.layClean.free m owner (f + 1) i p =
    (match (List.range (SetTable.runEnd m i + 1 - i)).find? fun k => isF owner (i + k) with
      | some k => some (i + k)
      | none => SetTable.layClean.free m owner f (SetTable.leap m i p).1 (SetTable.leap m i p).2) := rfl
theorem free_none (m : Nat) (owner : Array (Option Nat)) : ∀ (f i p : Nat), SetTable.layClean.free m owner f i p = none → ∀ t, t < f → isF owner (sq m (i, p) t).1 = false
  | 0, _, _, _, t, h => absurd h (Nat.not_lt_zero t)
  | f + 1, i, p, e, t, h => by
    rw [free_eq] at e
    cases hf : (List.range (SetTable.runEnd m i + 1 - i)).find? fun k => isF owner (i + k) with
    | some k => rw [hf] at e; cases e
    | none =>
      rw [hf] at e
      cases t with
      | zero =>
        have h0 := List.find?_eq_none.mp hf 0 (List.mem_range.mpr (by unfold SetTable.runEnd; split <;> omega))
        show isF owner i = false
        rw [Nat.add_zero] at h0
        exact Bool.eq_false_iff.mpr h0
      | succ t => exact free_none m owner f _ _ e t (by omega)
theorem free_get (m : Nat) (owner : Array (Option Nat)) : ∀ (f i p j : Nat), SetTable.layClean.free m owner f i p = some j → isF owner j = true
  | 0, _, _, _, e => by cases e
  | f + 1, i, p, j, e => by
    rw [free_eq] at e
    cases hf : (List.range (SetTable.runEnd m i + 1 - i)).find? fun k => isF owner (i + k) with
    | some k =>
      rw [hf] at e
      cases e
      exact List.find?_some (p := fun k => isF owner (i + k)) hf
    | none =>
      rw [hf] at e
      exact free_get m owner f _ _ j e
theorem free_ok {m : Nat} (hm : OkM m) (owner : Array (Option Nat)) {j0 : Nat} (hj : j0 ≤ m) (h0 : isF owner j0 = true) (i p : Nat) (hp : p < 2 ^ 64) : ∃ j, SetTable.layClean.free m owner (SetTable.turns m) i p = some j ∧ isF owner j = true := by
  cases e : SetTable.layClean.free m owner (SetTable.turns m) i p with
  | some j => exact ⟨j, rfl, free_get m owner _ _ _ _ e⟩
  | none =>
    exfalso
    have hz : (sq m (i, p) 13).2 = 0 := by
      rw [sq_snd]
      exact Nat.div_eq_of_lt (Nat.lt_of_lt_of_le hp (by decide))
    obtain ⟨t, ht, et⟩ := cover hm (sq_le m 12 (i, p)) hj
    have e1 : sq m (i, p) (13 + t) = (j0, 0) := by
      rw [sq_add]
      have e2 : sq m (i, p) 13 = ((sq m (i, p) 13).1, 0) := Prod.ext rfl hz
      rw [e2, sq_zero]
      show (lcN m t (sq m (i, p) 13).1, 0) = _
      rw [show sq m (i, p) 13 = sq m (i, p) (12 + 1) from rfl, et]
    have := free_none m owner _ _ _ e (13 + t) (by unfold SetTable.turns; omega)
    rw [e1, h0] at this
    cases this
structure LayI (m k : Nat) (owner : Array (Option Nat)) : Prop where
  sz : owner.size = m + 1
  pm : (owner.toList.filterMap id).Perm (List.range k)
theorem full_len : ∀ l : List (Option Nat), none ∉ l → (l.filterMap id).length = l.length
  | [], _ => rfl
  | none :: l, h => absurd (List.mem_cons_self ..) h
  | some a :: l, h => by
    rw [show (some a :: l).filterMap id = a :: l.filterMap id from rfl, List.length_cons, List.length_cons, full_len l fun z => h (List.mem_cons_of_mem _ z)]
theorem set_perm : ∀ (l : List (Option Nat)) (j k : Nat), l[j]? = some none → ((l.set j (some k)).filterMap id).Perm (k :: l.filterMap id)
  | [], _, _, h => by simp at h
  | x :: l, 0, k, h => by
    have hx : x = none := by simpa using h
    subst hx
    exact List.Perm.refl _
  | x :: l, j + 1, k, h => by
    have ih := set_perm l j k (by simpa using h)
    rw [List.set_cons_succ]
    cases x with
    | none => exact ih
    | some a => exact (ih.cons a).trans (List.Perm.swap ..)
theorem isF_get {owner : Array (Option Nat)} {j : Nat} (h : isF owner j = true) : owner.toList[j]? = some none := by
  unfold isF at h
  rw [Array.getD_eq_getD_getElem?] at h
  rw [Array.getElem?_toList]
  cases e : owner[j]? with
  | none => rw [e] at h; simp at h
  | some x =>
    rw [e] at h
    cases x with
    | none => rfl
    | some y => simp at h
theorem get_isF {owner : Array (Option Nat)} {j : Nat} (h : owner.toList[j]? = some none) : isF owner j = true := by
  unfold isF
  rw [Array.getElem?_toList] at h
  rw [Array.getD_eq_getD_getElem?, h]
  rfl
def layStep (m : Nat) (acc : Option (Array (Option Nat) × Nat)) (h : Int) : Option (Array (Option Nat) × Nat) := do
  let (owner, k) ← acc
  let j ← SetTable.layClean.free m owner (SetTable.turns m) (SetTable.bits h % (m + 1)) (SetTable.bits h)
  pure (owner.setIfInBounds j (some k), k + 1)
theorem clean_eq (m : Nat) (hs : Array Int) : SetTable.layClean m hs = (hs.toList.foldl (layStep m) (some (Array.replicate (m + 1) none, 0))).map (·.1) := by
  unfold SetTable.layClean
  rw [← Array.foldl_toList]
  rfl
theorem lay_fold {m : Nat} (hm : OkM m) : ∀ (hs : List Int) (k : Nat) (owner : Array (Option Nat)), LayI m k owner → k + hs.length ≤ m → ∃ o2, hs.foldl (layStep m) (some (owner, k)) = some (o2, k + hs.length) ∧ LayI m (k + hs.length) o2
  | [], k, owner, I, _ => ⟨owner, rfl, I⟩
  | h :: hs, k, owner, I, hl => by
    rw [List.length_cons] at hl
    have hn : none ∈ owner.toList := by
      by_cases c : none ∈ owner.toList
      · exact c
      · have := full_len _ c
        rw [I.pm.length_eq, List.length_range, Array.length_toList, I.sz] at this
        omega
    obtain ⟨j0, hj, ej⟩ := List.getElem_of_mem hn
    rw [Array.length_toList, I.sz] at hj
    have hg : owner.toList[j0]? = some none := by rw [List.getElem?_eq_getElem (by rw [Array.length_toList, I.sz]; exact hj), ej]
    obtain ⟨j, e, fj⟩ := free_ok hm owner (j0 := j0) (by omega) (get_isF hg) (SetTable.bits h % (m + 1)) (SetTable.bits h) (by
      unfold SetTable.bits
      have := Int.emod_lt_of_pos h (show (0 : Int) < 2 ^ 64 by decide)
      have h0 := Int.emod_nonneg h (show (2 : Int) ^ 64 ≠ 0 by decide)
      omega)
    have I2 : LayI m (k + 1) (owner.setIfInBounds j (some k)) := by
      refine ⟨by rw [Array.size_setIfInBounds]; exact I.sz, ?_⟩
      rw [Array.toList_setIfInBounds]
      refine (set_perm _ j k (isF_get fj)).trans ?_
      rw [List.range_succ]
      exact ((I.pm.cons k)).trans (List.perm_append_singleton k _).symm
    obtain ⟨o2, e2, I3⟩ := lay_fold hm hs (k + 1) _ I2 (by omega)
    refine ⟨o2, ?_, by rw [show k + (h :: hs).length = k + 1 + hs.length by rw [List.length_cons]; omega]; exact I3⟩
    rw [List.foldl_cons]
    have es : layStep m (some (owner, k)) h = some (owner.setIfInBounds j (some k), k + 1) := by
      show (SetTable.layClean.free m owner (SetTable.turns m) (SetTable.bits h % (m + 1)) (SetTable.bits h)).bind (fun j => some (owner.setIfInBounds j (some k), k + 1)) = _
      rw [e]
      rfl
    rw [es, e2, List.length_cons]
    congr 2
    omega
theorem range_get {α : Type} (l : List α) : (List.range l.length).filterMap (fun j => l[j]?) = l := by
  have e : (List.range l.length).map (fun j => l[j]?) = l.map some := by
    refine List.ext_getElem (by simp) fun i h1 h2 => ?_
    simp at h1
    simp [h1]
  calc (List.range l.length).filterMap (fun j => l[j]?) = ((List.range l.length).map (fun j => l[j]?)).filterMap id := by rw [List.filterMap_map]; rfl
    _ = (l.map some).filterMap id := by rw [e]
    _ = l := by rw [List.filterMap_map]; simp
theorem owner_range {m : Nat} {owner : Array (Option Nat)} (h : owner.size = m + 1) : (List.range (m + 1)).filterMap (fun j => owner.getD j none) = owner.toList.filterMap id := by
  have e : (List.range (m + 1)).map (fun j => owner.getD j none) = owner.toList := by
    refine List.ext_getElem (by simp [h]) fun i h1 h2 => ?_
    simp at h1 h2
    simp [Array.getD, h2]
  rw [← e, List.filterMap_map]
  rfl
theorem laid_ok {m : Nat} (hm : OkM m) (fi mv : Nat) (ld pl : Bool) {hs : Array Int} (hn : hs.size ≤ m) : ∃ t' order, SetTable.laid m fi mv ld pl hs = some (t', order) ∧ order.toList.Perm (List.range hs.size) ∧ Ris t'.place.toList ∧ t'.place.size = hs.size ∧ t'.mask = m ∧ t'.dummies = #[] ∧ t'.led = ld := by
  obtain ⟨o2, e, I⟩ := lay_fold hm hs.toList 0 (Array.replicate (m + 1) none) ⟨by simp, by
    rw [Array.toList_replicate, List.range_zero]
    refine List.Perm.of_eq ?_
    induction m + 1 with
    | zero => rfl
    | succ n ih => rw [List.replicate_succ, List.filterMap_cons_none rfl]; exact ih⟩ (by rw [Array.length_toList]; omega)
  have ec : SetTable.layClean m hs = some o2 := by rw [clean_eq, e]; rfl
  rw [Nat.zero_add, Array.length_toList] at I
  refine ⟨_, _, by unfold SetTable.laid; rw [ec]; rfl, ?_, ?_, ?_, rfl, rfl, rfl⟩
  · show (((List.range (m + 1)).filterMap fun j => (o2.getD j none).map (j, ·)).map (·.2)).Perm _
    rw [List.map_filterMap]
    have : (fun j => ((o2.getD j none).map (fun x => (j, x))).map (·.2)) = fun j => o2.getD j none := by
      funext j
      cases o2.getD j none <;> rfl
    rw [this, owner_range I.sz]
    exact I.pm
  · exact (ris_live (fun j => o2.getD j none) (List.range (m + 1)) (by unfold Ris; first | exact List.pairwise_lt_range | exact List.pairwise_lt_range _)).1
  · show (((List.range (m + 1)).filterMap fun j => (o2.getD j none).map (j, ·)).map (·.1)).toArray.size = _
    rw [List.size_toArray, List.length_map]
    have : ((List.range (m + 1)).filterMap fun j => (o2.getD j none).map (j, ·)).length = ((List.range (m + 1)).filterMap fun j => o2.getD j none).length := by
      have e2 : (List.range (m + 1)).filterMap (fun j => o2.getD j none) = ((List.range (m + 1)).filterMap fun j => (o2.getD j none).map (j, ·)).map (·.2) := by
        rw [List.map_filterMap]
        congr 1
        funext j
        cases o2.getD j none <;> rfl
      rw [e2, List.length_map]
    rw [this, owner_range I.sz, I.pm.length_eq, List.length_range]
theorem order_perm {α : Type} (es : Array α) {order : Array Nat} (h : order.toList.Perm (List.range es.size)) : (order.filterMap (es[·]?)).toList.Perm es.toList := by
  rw [Array.toList_filterMap]
  refine (h.filterMap _).trans (List.Perm.of_eq ?_)
  have := range_get es.toList
  rw [Array.length_toList] at this
  calc (List.range es.size).filterMap (es[·]?) = (List.range es.size).filterMap (fun j => es.toList[j]?) := by simp
    _ = es.toList := this
end DL

namespace DL
open L2 PySem PySem.Spec PyProof.Rows
/-! ## a copy of a set of ints -/
/-- a set of ints with its table -/
def SetX (w : World) (h : Heap) (a : Addr) (es : Array (Int × Value)) (t : SetTable) : Prop :=
  ∃ o ep, h.get? a = some o ∧ o.ExactSet ∧ o.data = .set es ep t ∧ (∀ e ∈ es.toList, GoodE e) ∧ (es.toList.map keyOf).Nodup ∧ es.size < scanBound ∧ t.fits es.size = true ∧ Ris t.place.toList ∧ (w.params.followText "set-order" = true ∨ t.led = true)
theorem SetX.of {w : World} {h : Heap} {a : Addr} {S : Int → Bool} {n : Nat} (R : SetR w h a S n) : ∃ es t, SetX w h a es t ∧ es.size = n ∧ ∀ k, S k = true ↔ k ∈ es.toList.map keyOf := by
  obtain ⟨o, es, ep, t, ho, hx, hd, g, nd, hm, hb, hf, hn, hr, hl⟩ := R
  exact ⟨es, t, ⟨o, ep, ho, hx, hd, g, nd, hb, hf, hr, hl⟩, hn, hm⟩
theorem SetX.setR {w : World} {h : Heap} {a : Addr} {S : Int → Bool} {es : Array (Int × Value)} {t : SetTable} (X : SetX w h a es t) (hm : ∀ k, S k = true ↔ k ∈ es.toList.map keyOf) : SetR w h a S es.size := by
  obtain ⟨o, ep, ho, hx, hd, g, nd, hb, hf, hr, hl⟩ := X
  exact ⟨o, es, ep, t, ho, hx, hd, g, nd, hm, hb, hf, rfl, hr, hl⟩
theorem SetX.at {w : World} {h h' : Heap} {a : Addr} {es : Array (Int × Value)} {t : SetTable} (X : SetX w h a es t) (k : ∀ o, h.get? a = some o → h'.get? a = some o) : SetX w h' a es t := by
  obtain ⟨o, ep, ho, r⟩ := X
  exact ⟨o, ep, k o ho, r⟩
section
variable {P : Program} {w : World} {A : Around} {E : Value → Shared → Prop} {s : Shared}
/-- a set without members, its table without marks -/
def SetE (h : Heap) (a : Addr) (t : SetTable) (m : Nat) (ld : Bool) : Prop := ∃ o ep, h.get? a = some o ∧ o.ExactSet ∧ o.data = .set #[] ep t ∧ t.place = #[] ∧ t.dummies = #[] ∧ t.mask = m ∧ t.led = ld
def maskFor (n : Nat) : Nat := if n < 5 then 7 else if n < 8 then 15 else 31
theorem maskFor_ok {n : Nat} (h : n < 16) : OkM (maskFor n) ∧ n ≤ maskFor n ∧ (8 ≤ n → 15 ≤ maskFor n) := by
  unfold maskFor OkM
  split
  · omega
  · split <;> omega
theorem above_eq {n : Nat} (h5 : 5 ≤ n) (h : n < 16) : SetTable.sizeAbove (n * 2) = maskFor n + 1 := by
  have : n = 5 ∨ n = 6 ∨ n = 7 ∨ n = 8 ∨ n = 9 ∨ n = 10 ∨ n = 11 ∨ n = 12 ∨ n = 13 ∨ n = 14 ∨ n = 15 := by omega
  rcases this with rfl | rfl | rfl | rfl | rfl | rfl | rfl | rfl | rfl | rfl | rfl <;> decide +kernel
theorem room_ok {D n : Nat} {ld : Bool} (hn : n < 16) {o : Obj} (ho : s.heap.get? D = some o) (hx : o.ExactSet) (hd : o.data = .set #[] 0 (.fresh 0 0 ld)) {Q : Unit → Shared → Prop}
    (h : ∀ h' t, Heap.SameBut D s.heap h' → SetE h' D t (maskFor n) ld → Q () { s with heap := h' }) : wpAny (model P w) A (setRoomFor D n) Q E s := by
  have hf : (SetTable.fresh 0 0 ld).fits (#[] : Array (Int × Value)).size = true := rfl
  unfold setRoomFor
  refine wpAny_bind (wpAny_setState_of ho hd hf ?_)
  dsimp only
  by_cases h5 : n < 5
  · have e : (SetTable.fresh 0 0 ld).roomFor n = none := by
      show (if (0 + n) * 5 ≥ 7 * 3 then some ((0 + n) * 2) else none) = none
      rw [if_neg (by omega)]
    rw [e]
    refine wpAny_pure (h s.heap _ (Heap.SameBut.refl D s.heap) ⟨o, 0, ho, hx, hd, rfl, rfl, ?_, rfl⟩)
    unfold maskFor
    rw [if_pos h5]
    rfl
  · have e : (SetTable.fresh 0 0 ld).roomFor n = some (n * 2) := by
      show (if (0 + n) * 5 ≥ 7 * 3 then some ((0 + n) * 2) else none) = _
      rw [if_pos (by omega), Nat.zero_add]
    rw [e]
    have ea := above_eq (by omega) hn
    have hm := (maskFor_ok hn).1
    obtain ⟨t', order, e2, p2, r2, s2, m2, d2, l2⟩ := laid_ok hm (SetTable.fresh 0 0 ld).finger ((SetTable.fresh 0 0 ld).movedTo (maskFor n)) ld (SetTable.fresh 0 0 ld).plain (hs := (#[] : Array (Int × Value)).map (·.1)) (by simp)
    have e3 : (SetTable.fresh 0 0 ld).relaid ((#[] : Array (Int × Value)).map (·.1)) (n * 2) = some (t', order) := by
      unfold SetTable.relaid
      rw [ea, Nat.add_sub_cancel]
      exact e2
    dsimp only
    rw [L2.setRelay_eq]
    refine wpAny_bind (wpAny_setState_of ho hd hf ?_)
    dsimp only
    refine wp_if_neg (by
      rw [ea, sizeLine_eq]
      have : maskFor n ≤ 31 := by unfold maskFor; split <;> (try split) <;> omega
      omega) ?_
    try refine wpAny_bind (wpAny_pure ?_)
    rw [e3]
    have eo : order.filterMap ((#[] : Array (Int × Value))[·]?) = #[] := by
      rw [Array.size_map] at p2
      have := order_perm (#[] : Array (Int × Value)) p2
      exact Array.toList_inj.mp (List.perm_nil.mp this)
    dsimp only
    refine wpAny_bind ?_
    rw [eo]
    refine wp_if_neg (by simp) ?_
    try refine wpAny_bind (wpAny_pure ?_)
    refine wpAny_pure ?_
    dsimp only
    refine wpAny_storeSet_of ho hd ?_ (Nat.zero_le _)
    refine h _ t' (Heap.SameBut.update ..) ⟨_, 1, store_at ho hd, ⟨hx.1, hx.2.1, hx.2.2⟩, rfl, ?_, d2, m2, l2⟩
    rw [Array.size_map] at s2
    have : t'.place.size = 0 := s2
    exact Array.eq_empty_of_size_eq_zero this
theorem copy_ok {a : Addr} {es : Array (Int × Value)} {t : SetTable} (X : SetX w s.heap a es t) (h4 : 4 ≤ es.size) (hn : es.size < 16) {Q : Value → Shared → Prop}
    (h : ∀ h' es' t', SetX w h' s.heap.objs.size es' t' → es'.toList.Perm es.toList → t'.dummies = #[] → t'.mask = maskFor es.size → (∀ b o, s.heap.get? b = some o → h'.get? b = some o) → Q (.ref s.heap.objs.size) { s with heap := h' }) :
    wpAny (model P w) A (Builtin.Frozenset.copyOf a) Q E s := by
  have ⟨o, ep, ho, hx, hd, g, nd, hb, hf, hr, hl⟩ := X
  unfold Builtin.Frozenset.copyOf
  refine wpAny_bind (base (X.setR (S := fun k => decide (k ∈ es.toList.map keyOf)) fun k => by simp) ?_)
  refine wpAny_bind (wpAny_newSet_raw fun led hled => ?_)
  refine wpAny_bind (m := Builtin.Frozenset.addrOf _) (wpAny_pure ?_)
  generalize eD : s.heap.objs.size = D at h ⊢
  have hne : a ≠ D := by rw [← eD]; exact Nat.ne_of_lt (Heap.lt_size ho)
  generalize eh1 : s.heap.push { cls := .type "set", dict := none, data := .set #[] 0 (.fresh 0 0 led) } = h1
  have k1 : ∀ b u, s.heap.get? b = some u → h1.get? b = some u := fun b u e => by rw [← eh1]; exact Heap.get?_push_of_some _ e
  have hD : h1.get? D = some { cls := .type "set", dict := none, data := .set #[] 0 (.fresh 0 0 led) } := by rw [← eh1, ← eD]; exact Heap.get?_push_size _ rfl
  have ho1 := k1 a o ho
  have fresh_ne : ∀ b u, s.heap.get? b = some u → b ≠ D := fun b u e => by rw [← eD]; exact Nat.ne_of_lt (Heap.lt_size e)
  refine wpAny_bind ?_
  unfold setMerge
  refine wp_if_neg (by
    intro z
    exact hne (eq_of_beq z).symm) ?_
  try refine wpAny_bind (wpAny_pure ?_)
  refine wpAny_bind (wpAny_setState_of (s := { s with heap := h1 }) ho1 hd hf ?_)
  dsimp only
  refine wp_if_neg (by
    intro z
    have : es.size = 0 := by simpa [Array.isEmpty] using z
    omega) ?_
  try refine wpAny_bind (wpAny_pure ?_)
  refine wpAny_bind (room_ok (s := { s with heap := h1 }) hn hD ⟨rfl, rfl, rfl⟩ rfl fun h2 ts sb ⟨o2, ep2, ho2, hx2, hd2, pl, dm, mk, ld⟩ => ?_)
  have ho22 : h2.get? a = some o := (sb.2 a hne).trans ho1
  have k2 : ∀ b u, s.heap.get? b = some u → h2.get? b = some u := fun b u e => (sb.2 b (fresh_ne b u e)).trans (k1 b u e)
  have hf2 : ts.fits (#[] : Array (Int × Value)).size = true := by
    unfold SetTable.fits SetTable.fill
    rw [pl, dm]
    rfl
  refine wpAny_bind (wpAny_setState_of (s := { s with heap := h2 }) ho2 hd2 hf2 ?_)
  dsimp only
  have hfill : ts.fill = 0 := by unfold SetTable.fill; rw [pl, dm]; rfl
  have ldc : w.params.followText "set-order" = true ∨ (ts.led && t.led) = true := by
    cases hft : w.params.followText "set-order" with
    | true => exact .inl rfl
    | false =>
      right
      have e1 : t.led = true := hl.resolve_left (by rw [hft]; exact Bool.false_ne_true)
      rw [ld, e1, hled, hft]
      rfl
  by_cases hc : (ts.mask == t.mask && t.dummies.isEmpty) = true
  · have er : ts.road t = .slotForSlot := by
      unfold SetTable.road
      rw [hfill, hc]
      rfl
    rw [er]
    rw [Bool.and_eq_true] at hc
    dsimp only
    refine wpAny_storeSet_of (s := { s with heap := h2 }) ho2 hd2 ?_ (fits_of_scanBound hb)
    refine wpAny_pure (h _ es { t with finger := ts.finger, led := ts.led && t.led, moves := ts.moves, plain := ts.plain && t.plain } ⟨_, _, store_at ho2 hd2, ⟨hx2.1, hx2.2.1, hx2.2.2⟩, rfl, g, nd, hb, hf, hr, ldc⟩ (List.Perm.refl _) ?_ ?_ fun b u e => ?_)
    · exact Array.isEmpty_iff.mp hc.2
    · exact (eq_of_beq hc.1).symm.trans mk
    · exact (Heap.get?_update_other _ _ (fun z => fresh_ne b u e z.symm)).trans (k2 b u e)
  · have er : ts.road t = .clean := by
      unfold SetTable.road
      rw [hfill]
      rw [if_neg (by simp), if_neg hc]
    rw [er]
    obtain ⟨t', order, e2, p2, r2, s2, m2, d2, l2⟩ := laid_ok (m := ts.mask) (by rw [mk]; exact (maskFor_ok hn).1) ts.finger ts.moves (ts.led && t.led) (ts.plain && t.plain) (hs := es.map (·.1)) (by rw [Array.size_map, mk]; exact (maskFor_ok hn).2.1)
    rw [Array.size_map] at p2 s2
    have ep3 := order_perm es p2
    have esz : (order.filterMap (es[·]?)).size = es.size := by
      have := ep3.length_eq
      rwa [Array.length_toList, Array.length_toList] at this
    dsimp only
    rw [e2]
    refine wpAny_bind ?_
    refine wp_if_neg (by rw [esz]; simp) ?_
    try refine wpAny_bind (wpAny_pure ?_)
    refine wpAny_pure ?_
    dsimp only
    refine wpAny_storeSet_of (s := { s with heap := h2 }) ho2 hd2 ?_ (by rw [esz]; exact fits_of_scanBound hb)
    refine wpAny_pure (h _ (order.filterMap (es[·]?)) t' ⟨_, _, store_at ho2 hd2, ⟨hx2.1, hx2.2.1, hx2.2.2⟩, rfl, fun e he => g e (ep3.mem_iff.mp he), (ep3.map keyOf).nodup_iff.mpr nd, by rw [esz]; exact hb, ?_, r2, by rw [l2]; exact ldc⟩ ep3 d2 (m2.trans mk) fun b u e => ?_)
    · unfold SetTable.fits SetTable.fill
      rw [esz, s2, d2, m2, mk, Bool.and_eq_true, beq_iff_eq, decide_eq_true_eq]
      exact ⟨rfl, (maskFor_ok hn).2.1⟩
    · exact (Heap.get?_update_other _ _ (fun z => fresh_ne b u e z.symm)).trans (k2 b u e)
end
end DL

namespace DL
open L2 PySem PySem.Spec PyProof.Rows
theorem erase_list {α : Type} (xs : Array α) (p : Nat) : (SetTable.eraseAt xs p).toList = xs.toList.eraseIdx p := by
  unfold SetTable.eraseAt
  rw [Array.toList_append, Array.toList_extract, Array.toList_extract, List.eraseIdx_eq_take_drop_succ]
  simp
  exact List.take_of_length_le (by rw [List.length_drop, Array.length_toList]; exact Nat.le_refl _)
theorem erase_size {α : Type} (xs : Array α) {p : Nat} (h : p < xs.size) : (SetTable.eraseAt xs p).size = xs.size - 1 := by
  rw [← Array.length_toList, erase_list, List.length_eraseIdx, Array.length_toList, if_pos h]
theorem insert_size {α : Type} (xs : Array α) (p : Nat) (x : α) (h : p ≤ xs.size) : (SetTable.insertAt xs p x).size = xs.size + 1 := by
  unfold SetTable.insertAt
  simp
  omega
theorem below_go_le (xs : Array Nat) (j : Nat) : ∀ (f lo hi : Nat), lo ≤ hi → SetTable.below.go xs j f lo hi ≤ hi
  | 0, lo, hi, h => h
  | f + 1, lo, hi, h => by
    unfold SetTable.below.go
    by_cases c : lo < hi
    · rw [if_pos c]
      dsimp only
      by_cases d : xs.getD ((lo + hi) / 2) j < j
      · rw [if_pos d]
        exact below_go_le xs j f _ _ (by omega)
      · rw [if_neg d]
        exact Nat.le_trans (below_go_le xs j f _ _ (by omega)) (by omega)
    · rw [if_neg c]; exact h
theorem below_le (xs : Array Nat) (j : Nat) : SetTable.below xs j ≤ xs.size := below_go_le xs j _ _ _ (Nat.zero_le _)
theorem drop_eq {t : SetTable} {i j : Nat} (h : t.place[i]? = some j) : t.drop i = { t with place := SetTable.eraseAt t.place i, dummies := SetTable.insertAt t.dummies (SetTable.below t.dummies j) j } := by
  unfold SetTable.drop
  rw [h]
section
variable {P : Program} {w : World} {A : Around} {E : Value → Shared → Prop} {s : Shared}
theorem find_at {a : Addr} {es : Array (Int × Value)} {t : SetTable} (X : SetX w s.heap a es t) {e : Int × Value} (ge : GoodE e) {Q : Option Nat → Shared → Prop}
    (h : ∀ r : Option Nat, (r = none → keyOf e ∉ es.toList.map keyOf) → (∀ i, r = some i → (es.toList.map keyOf)[i]? = some (keyOf e)) → Q r s) : wpAny (model P w) A (setFind a e.2 e.1) Q E s := by
  obtain ⟨o, ep, ho, hx, hd, g, nd, hb, hf, hr, hl⟩ := X
  obtain ⟨hh, v⟩ := e
  obtain ⟨k, tk, e1, e2⟩ := ge
  have e1' : v = Value.int k tk := e1
  have e2' : hh = hashInt k := e2
  subst e1' e2'
  have el := good_elems (P := P) (w := w) g
  unfold setFind setFindIn
  refine wpAny_bind (wpAny_setState_of ho hd hf ?_)
  dsimp only
  rw [byScan_of (knd := intKind P w) rfl hb el]
  refine wp_if_pos rfl ?_
  refine wpAny_bind (wpAny_rule ?_)
  refine wpAny_bind (wpAny_setScan_of (knd := intKind P w) (k := k) (intKind_is P w k tk) ho hd hf el ?_)
  cases hq : List.findIdx? (fun e => (intKind P w).is k e.2) es.toList with
  | none =>
    dsimp only
    refine wpAny_pure (h none (fun _ hm => ?_) fun i z => nomatch z)
    obtain ⟨e, he, hpe⟩ := (good_mem (P := P) (w := w) g k).mp hm
    have := List.findIdx?_eq_none_iff.mp hq e he
    rw [hpe] at this
    cases this
  | some j =>
    dsimp only
    refine wpAny_pure (h (some (0 + j)) (fun z => nomatch z) fun i z => ?_)
    obtain ⟨hj, hpj, _⟩ := List.findIdx?_eq_some_iff_getElem.mp hq
    cases z
    rw [Nat.zero_add, List.getElem?_map, List.getElem?_eq_getElem hj]
    show some (keyOf es.toList[j]) = some k
    rw [(good_is (P := P) (w := w) (g _ (List.getElem_mem hj)) k).mp hpj]
theorem discard_at {a : Addr} {es : Array (Int × Value)} {t : SetTable} (X : SetX w s.heap a es t) {e : Int × Value} (ge : GoodE e) {Q : Bool → Shared → Prop}
    (h : ∀ b h' es' t', Heap.SameBut a s.heap h' → SetX w h' a es' t' → (∀ k, k ∈ es'.toList.map keyOf ↔ k ∈ es.toList.map keyOf ∧ k ≠ keyOf e) → t'.mask = t.mask → t'.dummies.size ≤ t.dummies.size + 1 → Q b { s with heap := h' }) :
    wpAny (model P w) A (setDiscardHashed a e.2 e.1) Q E s := by
  have ⟨o, ep, ho, hx, hd, g, nd, hb, hf, hr, hl⟩ := X
  unfold setDiscardHashed
  refine wpAny_bind (find_at X ge fun r r1 r2 => ?_)
  cases r with
  | none =>
    refine wpAny_pure (h false s.heap es t (Heap.SameBut.refl a s.heap) X (fun k => ⟨fun z => ⟨z, fun z2 => r1 rfl (z2 ▸ z)⟩, fun z => z.1⟩) rfl (Nat.le_succ _))
  | some i =>
    have hi := r2 i rfl
    have hlt : i < es.size := by
      obtain ⟨z, _⟩ := List.getElem?_eq_some_iff.mp hi
      rwa [List.length_map, Array.length_toList] at z
    have hf' : t.place.size = es.size ∧ t.fill ≤ t.mask := by
      have z := hf
      unfold SetTable.fits at z
      rw [Bool.and_eq_true, beq_iff_eq, decide_eq_true_eq] at z
      exact z
    have hp : t.place[i]? = some (t.place[i]'(by omega)) := Array.getElem?_eq_getElem (by omega)
    refine wpAny_bind (wpAny_setState_of ho hd hf ?_)
    dsimp only
    refine wpAny_bind (wpAny_storeSet_of ho hd ?_ (by rw [erase_size es hlt]; have := fits_of_scanBound hb; omega))
    refine wpAny_bind (wpAny_point ?_)
    have sz := erase_size es hlt
    have szp := erase_size t.place (p := i) (by omega)
    have szd := insert_size t.dummies (SetTable.below t.dummies (t.place[i]'(by omega))) (t.place[i]'(by omega)) (below_le _ _)
    refine wpAny_pure (h true _ (SetTable.eraseAt es i) (t.drop i) (Heap.SameBut.update ..) ⟨_, _, store_at ho hd, ⟨hx.1, hx.2.1, hx.2.2⟩, rfl, fun e he => ?_, ?_, by rw [sz]; omega, ?_, ?_, by rw [drop_eq hp]; exact hl⟩ (fun k => ?_) (by rw [drop_eq hp]) (by rw [drop_eq hp]; exact Nat.le_of_eq szd))
    · rw [erase_list] at he
      exact g e (List.mem_of_mem_eraseIdx he)
    · rw [erase_list]
      exact nd.sublist ((List.eraseIdx_sublist _ _).map keyOf)
    · rw [drop_eq hp]
      unfold SetTable.fits SetTable.fill
      rw [Bool.and_eq_true, beq_iff_eq, decide_eq_true_eq]
      show (SetTable.eraseAt t.place i).size = (SetTable.eraseAt es i).size ∧ (SetTable.eraseAt t.place i).size + (SetTable.insertAt t.dummies (SetTable.below t.dummies (t.place[i]'(by omega))) (t.place[i]'(by omega))).size ≤ t.mask
      have z := hf'.2
      unfold SetTable.fill at z
      omega
    · rw [drop_eq hp]
      show Ris (SetTable.eraseAt t.place i).toList
      rw [erase_list]
      exact List.Pairwise.sublist (List.eraseIdx_sublist _ _) hr
    · rw [erase_list]
      have e1 : (es.toList.eraseIdx i).map keyOf = (es.toList.map keyOf).eraseIdx i := by
        rw [List.eraseIdx_eq_take_drop_succ, List.eraseIdx_eq_take_drop_succ, List.map_append, List.map_take, List.map_drop]
      rw [e1]
      generalize es.toList.map keyOf = l at nd hi
      have pm := L2.erase_perm l i (keyOf e) hi
      have nd2 := pm.nodup_iff.mpr nd
      obtain ⟨n1, n2⟩ := List.nodup_cons.mp nd2
      constructor
      · intro z
        exact ⟨pm.mem_iff.mp (List.mem_cons_of_mem _ z), fun z2 => n1 (z2 ▸ z)⟩
      · intro z
        rcases List.mem_cons.mp (pm.mem_iff.mpr z.1) with z2 | z2
        · exact absurd z2 z.2
        · exact z2
/-- the walk of a set beside others -/
theorem walkN {a : Addr} {S : Int → Bool} {n : Nat} {others : List Addr} (R : SetR w s.heap a S n) (ho : ∀ c ∈ others, ∃ S n, SetR w s.heap c S n) {Q : Array (Int × Value) → Shared → Prop}
    (h : ∀ (l : Array (Int × Value)) d, (∀ e ∈ l.toList, GoodE e) → (∀ k, S k = true ↔ k ∈ l.toList.map keyOf) → l.size = n → Q l { s with drawn := d }) :
    wpAny (model P w) A (setWalkUnseen a others none) Q E s := by
  have ⟨o, es, ep, t, ho', hx, hd, g, nd, hm, hb, hf, hn, hr, hl⟩ := R
  have viaWalk : wpAny (model P w) A (setWalk a) Q E s := walkS R fun l d g1 g2 g3 g4 => h l d g1 g3 g4
  unfold setWalkUnseen
  refine wpAny_bind (wpAny_setState_of ho' hd hf ?_)
  dsimp only
  refine wpAny_bind (wpAny_byText ?_)
  split
  · first | exact viaWalk | exact wpAny_bind (wpAny_mono viaWalk (fun _ _ q => wpAny_pure q) fun _ _ q => q)
  · refine wpAny_bind (quiet (a :: others) (fun c hc => ?_) ?_)
    · rcases List.mem_cons.mp hc with e | e
      · subst e; exact ⟨S, n, R⟩
      · exact ho c e
    refine wp_if_neg (by simp) ?_
    refine wpAny_bind (wpAny_rule ?_)
    exact wpAny_pure (h es s.drawn g hm hn)
/-- the members of the one, less those of the other, by a copy -/
theorem less_upd {id : String} {D b : Addr} {es : Array (Int × Value)} {t : SetTable} {T : Int → Bool} {m : Nat} (X : SetX w s.heap D es t) (Rb : SetR w s.heap b T m) (hne : D ≠ b) (hd0 : t.dummies = #[]) (hm : m ≤ t.mask / 4) (hs : m ≤ es.size) {Q : Unit → Shared → Prop}
    (h : ∀ h' es' t' d, Heap.SameBut D s.heap h' → SetX w h' D es' t' → (∀ k, k ∈ es'.toList.map keyOf ↔ k ∈ es.toList.map keyOf ∧ T k = false) → Q () { s with heap := h', drawn := d }) :
    wpAny (model P w) A (Builtin.Frozenset.differenceUpdate id D (.ref b)) Q E s := by
  have RD := X.setR (S := fun k => decide (k ∈ es.toList.map keyOf)) fun k => by simp
  unfold Builtin.Frozenset.differenceUpdate
  refine wp_if_neg (by
    intro z
    have z2 := eq_of_beq z
    injection z2 with z3
    exact hne z3.symm) ?_
  try refine wpAny_bind (wpAny_pure ?_)
  refine wpAny_bind (isAny Rb ?_)
  refine wp_if_pos rfl ?_
  refine wpAny_bind (m := Builtin.Frozenset.addrOf _) (wpAny_pure ?_)
  refine wpAny_bind (sizeOf Rb ?_)
  refine wpAny_bind (sizeOf RD ?_)
  refine wp_if_neg (by omega) ?_
  try refine wpAny_bind (wpAny_pure ?_)
  refine wpAny_bind (epoch Rb fun ep hep => ?_)
  refine wpAny_bind (wpAny_holding ?_)
  refine wpAny_bind (walkN Rb (fun c hc => ?_) fun l d gl hT hsz => ?_)
  · rw [List.mem_singleton.mp hc]; exact ⟨_, _, RD⟩
  rw [← Array.forIn_toList]
  refine wpAny_bind ?_
  have hll : l.toList.length = m := by rw [Array.length_toList]; exact hsz
  refine wpAny_forIn_list _ (fun rest _ s' => ∃ done h' es' t', l.toList = done ++ rest ∧ s' = { s with heap := h', drawn := d } ∧ Heap.SameBut D s.heap h' ∧ SetX w h' D es' t' ∧ (∀ k, k ∈ es'.toList.map keyOf ↔ k ∈ es.toList.map keyOf ∧ k ∉ done.map keyOf) ∧ t'.mask = t.mask ∧ t'.dummies.size ≤ done.length) _ ?_ ?_ l.toList _ ⟨[], s.heap, es, t, rfl, rfl, Heap.SameBut.refl D s.heap, X, fun k => by simp, rfl, by rw [hd0]; exact Nat.zero_le _⟩
  · rintro ⟨hh, x⟩ rest u s' ⟨done, h', es', t', el, rfl, sb, X', mem, mk, dm⟩
    have ge : GoodE (hh, x) := gl _ (by rw [el]; simp)
    refine wpAny_bind (wpAny_holding (discard_at (s := { s with heap := h', drawn := d }) X' ge fun r h2 es2 t2 sb2 X2 mem2 mk2 dm2 => ?_))
    unfold Builtin.Frozenset.unchanged
    refine wpAny_bind (wpAny_bind (hep h2 (fun o e => (sb2.2 b hne.symm).trans ((sb.2 b hne.symm).trans e)) { s with heap := h2, drawn := d } rfl _ ?_))
    refine wp_if_neg (by simp) ?_
    refine wpAny_pure (wpAny_pure ⟨done ++ [(hh, x)], h2, es2, t2, by rw [el]; simp, rfl, sb.trans sb2, X2, fun k => ?_, mk2.trans mk, by rw [List.length_append]; exact Nat.le_trans dm2 (Nat.succ_le_succ dm)⟩)
    rw [mem2, mem, List.map_append, List.mem_append, List.map_singleton, List.mem_singleton, not_or, and_assoc]
  · rintro u s' ⟨done, h', es', t', el, rfl, sb, X', mem, mk, dm⟩
    rw [List.append_nil] at el
    rw [← el] at mem dm
    refine wpAny_pure ?_
    have ⟨o, ep2, ho, hx, hd, g, nd, hb, hf, hr, hl⟩ := X'
    unfold setTidy
    refine wpAny_bind (wpAny_setState_of (s := { s with heap := h', drawn := d }) ho hd hf ?_)
    dsimp only
    refine wp_if_neg (by
      unfold SetTable.tooManyDummies
      rw [mk]
      rw [hll] at dm
      simp
      omega) ?_
    refine wpAny_pure (h h' es' t' d sb X' fun k => ?_)
    rw [mem]
    refine and_congr_right fun _ => ?_
    rw [← hT k]
    simp
end
end DL

namespace DL
open L2 PySem PySem.Spec PyProof.Rows
section
variable {P : Program} {w : World} {A : Around} {E : Value → Shared → Prop} {s : Shared} {a b : Addr} {S T : Int → Bool} {n m : Nat}
theorem differ2 {id : String} (Ra : SetR w s.heap a S n) (Rb : SetR w s.heap b T m) (hn : n < 16) (hq : m < n / 4) {Q : Value → Shared → Prop}
    (h : ∀ h' k d, SetR w h' s.heap.objs.size (fun j => S j && !T j) k → (∀ b o, s.heap.get? b = some o → h'.get? b = some o) → Q (.ref s.heap.objs.size) { s with heap := h', drawn := d }) :
    wpAny (model P w) A (Builtin.Frozenset.difference id a (.ref b)) Q E s := by
  obtain ⟨es, t, X, hsz, hS⟩ := SetX.of Ra
  have lb := Rb.lt
  unfold Builtin.Frozenset.difference
  refine wpAny_bind (isAny Rb ?_)
  refine wp_if_neg (by simp) ?_
  refine wpAny_bind (m := Builtin.Frozenset.addrOf _) (wpAny_pure ?_)
  refine wp_if_neg (by simp) ?_
  show wpAny _ _ (if true = true then _ else _) _ _ _
  refine wp_if_pos rfl (wpAny_bind (sizeOf Rb ?_))
  refine wpAny_bind (m := pure _) (wpAny_pure ?_)
  refine wpAny_bind (sizeOf Ra ?_)
  refine wp_if_pos (by omega) ?_
  refine wpAny_bind (wpAny_rule ?_)
  refine wpAny_bind (copy_ok X (by omega) (by omega) fun h1 es1 t1 X1 pm dm mk k1 => ?_)
  have ne : s.heap.objs.size ≠ b := Nat.ne_of_gt lb
  have hl : es1.size = es.size := by
    have := pm.length_eq
    rwa [Array.length_toList, Array.length_toList] at this
  have mko := maskFor_ok (n := es.size) (by omega)
  refine wpAny_bind (m := Builtin.Frozenset.addrOf _) (wpAny_pure ?_)
  refine wpAny_bind (wpAny_holding ?_)
  refine less_upd (s := { s with heap := h1 }) X1 (Rb.at fun o e => k1 _ _ e) ne dm (by
    rw [mk]
    by_cases c : 8 ≤ es.size
    · have := mko.2.2 c
      omega
    · omega) (by omega) fun h2 es2 t2 d sb X2 mem => ?_
  refine wpAny_pure (h h2 es2.size d (X2.setR fun k => ?_) fun c o e => ?_)
  · rw [mem, (pm.map keyOf).mem_iff, ← hS k]
    simp
  · exact (sb.2 c (Nat.ne_of_lt (Heap.lt_size e))).trans (k1 c o e)
theorem op_sub2 (Ra : SetR w s.heap a S n) (Rb : SetR w s.heap b T m) (hn : n < 1000) (hq : n / 4 ≤ m ∨ n < 16) {Q : Value → Shared → Prop}
    (h : ∀ h' k d, SetR w h' s.heap.objs.size (fun j => S j && !T j) k → (∀ b o, s.heap.get? b = some o → h'.get? b = some o) → Q (.ref s.heap.objs.size) { s with heap := h', drawn := d }) :
    wpAny (model P w) A (binaryOp .Sub (.ref a) (.ref b)) Q E s := by
  by_cases c : n / 4 ≤ m
  · exact op_sub_sets Ra Rb hn c h
  refine wpAny_binaryOp_same (T := "set") (id := "set.__sub__") (SetR.ty Ra) (SetR.ty Rb) PySem.F.fills_set_sub PySem.F.slot_set_sub ?_
  refine wpAny_call_entry PySem.F.slot_set_sub (SetR.ty Ra) entry_ssub ?_ (PySem.F.args_set_sub_2 _ _)
  show wpAny _ _ (Builtin.«frozenset.__sub__» ⟨[.ref a, .ref b], []⟩) _ _ _
  refine wpAny_bind (m := Builtin.Frozenset.slot1 "__sub__" _) (wpAny_pure ?_)
  refine wpAny_bind (m := andM _ _) (wpAny_bind (isAny Ra (isAny Rb ?_)))
  refine wp_if_neg (by simp) ?_
  refine wpAny_bind (m := Builtin.Frozenset.addrOf _) (wpAny_pure ?_)
  refine wpAny_bind (differ2 Ra Rb (hq.resolve_left c) (by omega) fun h' k d R kk => ?_)
  exact wpAny_pure ⟨_, rfl, (by intro z; cases z), h h' k d R kk⟩
end
section
variable {X : Cx}
theorem o_ssub2 : OpR X (binaryOp .Sub) (rSets X.w (fun a b => a && !b) fun n m => n / 4 ≤ m ∨ n < 16) := by
  intro pins s σ H x y v u Q I rx ry h
  obtain ⟨a, b, S, T, n, m, rfl, rfl, hne, ha, hb, hn, hm, hq, q⟩ := h
  cases rx
  cases ry
  refine op_sub2 (setO_get I ha) (setO_get I hb) hn hq fun h' k d R kk => ?_
  have fr : H s.heap.objs.size = none := I.hok.fresh (Nat.le_refl _)
  have J : Inv X pins σ (upd H s.heap.objs.size (SetO X.w s.heap.objs.size (fun j => S j && !T j) k)) { s with heap := h', drawn := d } :=
    I.call (ch := []) (Un.laid kk (Nat.le_refl _) fr) (I.hok.laid kk (Nat.le_refl _) (setO_new R)) I.bare (fun _ z => nomatch z)
  exact ⟨.ref _, _, J, rfl, q _ k fr (SetR.le R) fun ms h1 h2 => SetR.count R h1 h2⟩
end
end DL

namespace DL
open L2 PySem PySem.Spec PyProof.Rows
/-! ## sorted of a tuple of ints -/
section
variable {P : Program} {w : World} {A : Around} {E : Value → Shared → Prop} {s : Shared}
theorem gather {t : Addr} {us : List Value} {o : Obj} {n : Nat} {Q : List Value → Shared → Prop} (ho : s.heap.get? t = some o) (hc : o.cls = .type "tuple") (hd : o.data = .seq us.toArray n) (few : us.length ≤ sizeLine)
    (h : Q us { s with heap := (s.heap.push (seqObj "list" #[] 0)).update s.heap.objs.size (Obj.mapSeq (· ++ us.toArray)) }) : wpAny (model P w) A (collect (.ref t)) Q E s := by
  have old : (s.heap.push (seqObj "list" #[] 0)).get? t = some o := Heap.get?_push_of_some _ ho
  have new : (s.heap.push (seqObj "list" #[] 0)).get? s.heap.objs.size = some (seqObj "list" #[] 0) := Heap.get?_push_size _ rfl
  unfold collect
  refine wpAny_bind (wpAny_runValue (codeAny_builtin entry_proto_collect' (wpAny_bind (wpAny_newList (wpAny_pure ⟨Code.quiet_builtin _ (by decide +kernel), codeAny_builtin entry_list_iadd' ?_⟩)))))
  refine wpAny_bind (m := typeOf _) (wpAny_typeOf (T := "tuple") ⟨o, old, hc⟩ ?_)
  refine wp_if_pos (by
    have : (Value.type "tuple" == Value.type "tuple") = true := rfl
    rw [this]
    simp) ?_
  refine wpAny_bind (listItems_at old hd ?_)
  refine wpAny_bind (listItems_at (xs := #[]) (n := 0) new rfl ?_)
  refine wp_if_neg (by simp) ?_
  refine wpAny_bind (listUpdate_at (xs := #[]) (n := 0) new rfl ?_ (Nat.zero_le _) (by
    show (#[] ++ us.toArray).size ≤ sizeLine + 1
    rw [Array.size_append, List.size_toArray]
    show 0 + us.length ≤ sizeLine + 1
    omega))
  refine wpAny_pure ?_
  refine wpAny_bind (wpAny_load (get?_update_seq new _) ?_)
  refine wpAny_pure ?_
  have e : ((#[] : Array Value) ++ us.toArray).toList = us := by simp
  rw [e]
  exact h
open SrtO in
theorem sorted_tup {t : Addr} {us : List Value} {ltv : Value → Value → Bool} {o : Obj} {n : Nat} {Q : Value → Shared → Prop} (O : Swo ltv) (ho : s.heap.get? t = some o) (hc : o.cls = .type "tuple") (hd : o.data = .seq us.toArray n) (few : us.length ≤ sizeLine)
    (hS : 2 ≤ us.length → ∀ (h₁ : Heap) (a : Addr), h₁.get? a = some (seqObj "list" us.toArray 0) → (∀ b o, s.heap.get? b = some o → b ≠ a ∧ h₁.get? b = some o) → SortableO P w A.in1.in1 { s with heap := h₁ } a us ltv)
    (h : ∀ out : List Value, Srtd ltv out → Stb ltv out us → Q (.ref (s.heap.objs.size + 1)) { s with heap := sortedAll s.heap us out.toArray }) :
    wpAny (model P w) A (call (.builtin "sorted") [.ref t]) Q E s := by
  generalize e1 : (s.heap.push (seqObj "list" #[] 0)).update s.heap.objs.size (Obj.mapSeq (· ++ us.toArray)) = g
  have sz : g.objs.size = s.heap.objs.size + 1 := by rw [← e1, Heap.size_update, size_push']
  have new : (g.push (seqObj "list" us.toArray 0)).get? (s.heap.objs.size + 1) = some (seqObj "list" us.toArray 0) := by rw [← sz]; exact Heap.get?_push_size _ rfl
  have old : ∀ b u, s.heap.get? b = some u → b ≠ s.heap.objs.size + 1 ∧ (g.push (seqObj "list" us.toArray 0)).get? b = some u := fun b u q => by
    have lt := Heap.lt_size q
    refine ⟨Nat.ne_of_lt (Nat.lt_succ_of_lt lt), Heap.get?_push_of_some _ ?_⟩
    rw [← e1, Heap.get?_update_ne _ _ _ _ (Nat.ne_of_lt lt)]
    exact Heap.get?_push_of_some _ q
  refine Calls.call_function_entry kind_sorted plain_sorted entry_sorted (args_sorted1 _) ?_
  unfold Builtin.«sorted»
  refine wpAny_bind (m := checkCount "sorted" 1 1 _) (wpAny_pure (wpAny_bind (gather ho hc hd few ?_)))
  rw [e1]
  refine wpAny_bind (wpAny_newList ?_ few)
  show wpAny _ _ _ _ _ { s with heap := g.push (seqObj "list" us.toArray 0) }
  rw [sz]
  refine wpAny_bind (wpAny_holding (wpAny_call_entry slot_list_sort ⟨_, new, rfl⟩ entry_list_sort ?_ (args_list_sort _)))
  refine list_sort_ord O new few (fun h2 => hS h2 _ _ new old) fun out hs hb => ⟨_, rfl, wpAny_pure ⟨_, rfl, ?_⟩⟩
  have := h out hs hb
  unfold sortedAll at this
  rw [e1] at this
  exact this
end
section
variable {X : Cx}
def rSortedQ (K : PySem.W.Frag) : List V → Hp → VK → Prop := fun vs H Q => ∃ (a : Addr) (ns : List Int), vs = [V.ref a] ∧ SqT K H a (ns.map V.int) ∧ ∀ (ns' : List Int) (p : Addr), ns'.Perm ns → ns'.Pairwise (· ≤ ·) → H p = none → Q (.ref p) (upd H p (.lst (ns'.map V.int)))
theorem cr_sortedQ : CallR X (.builtin "sorted") (rSortedQ X.K) := by
  rintro pins s σ H vs us Q I r ⟨a, ns, rfl, hs, q⟩
  obtain ⟨its, rv, ⟨o, ho, hc, n, hd⟩, few⟩ := I.tuple hs
  rw [Vals.ref1 r]
  have hi := rv.ints
  have lz : its.length ≤ sizeLine := by rw [← rv.length]; exact few
  refine sorted_tup SrtO.swo_int ho hc hd lz (fun h2 _ _ _ _ => SrtO.ints_sortable hi h2) fun out h1 h2 => ?_
  obtain ⟨k1, k2, k3⟩ := SrtO.ints_out hi h1 h2
  obtain ⟨ep, at'⟩ := sortedAll_at s.heap its out.toArray
  have lo : ((out.map SrtO.iv).map V.int).length ≤ sizeLine := by
    rw [List.length_map, k2.length_eq]
    rwa [List.length_map] at few
  refine ⟨.ref _, upd H (s.heap.objs.size + 1) (.lst ((out.map SrtO.iv).map V.int)), ?_, rfl, q _ _ k2 k3 (I.hok.fresh (Nat.le_succ _))⟩
  exact I.laid (t' := s.toks) (fun _ _ => sortedAll_old) (Nat.le_succ _) ⟨lo, out, ep, vals_of_ints k1, at'⟩
def sortT : List PyData → Option PyData
  | [.list ds] => (toInts ds).map fun ns => .list ((isort ns).map PyData.int)
  | [.tuple ds] => (toInts ds).map fun ns => .list ((isort ns).map PyData.int)
  | _ => none
theorem c_sortT : CallR X (.builtin "sorted") (rDs X.K sortT) := by
  refine data_call (CallR.or cr_sortedI cr_sortedQ) fun xs H Q ds z O dom hd hg q => ?_
  match ds, hg, hd with
  | [.list ys], hg, hd =>
    obtain ⟨v, rfl, p⟩ := one_do hd
    simp only [sortT] at hg
    cases e : toInts ys with
    | none => rw [e] at hg; cases hg
    | some ns =>
      rw [e] at hg
      cases hg
      cases p with
      | lst hx n ha =>
        have q1 := toInts_do ha e
        subst q1
        refine .inl ⟨_, ns, rfl, SqL.of hx, fun ns' l hp hs hl => ?_⟩
        have q2 : ns' = isort ns := sorted_unique (hp.trans (isort_perm ns).symm) hs (isort_sorted ns)
        subst q2
        exact q _ _ (same_new hl) (do_new_lst dom hl (DoAll.ints _))
  | [.tuple ys], hg, hd =>
    obtain ⟨v, rfl, p⟩ := one_do hd
    simp only [sortT] at hg
    cases e : toInts ys with
    | none => rw [e] at hg; cases hg
    | some ns =>
      rw [e] at hg
      cases hg
      cases p with
      | tup hx _ ha =>
        have q1 := toInts_do ha e
        subst q1
        refine .inr ⟨_, ns, rfl, hx, fun ns' l hp hs hl => ?_⟩
        have q2 : ns' = isort ns := sorted_unique (hp.trans (isort_perm ns).symm) hs (isort_sorted ns)
        subst q2
        exact q _ _ (same_new hl) (do_new_lst dom hl (DoAll.ints _))
end
end DL

namespace DL
open L2 PySem PySem.Spec PyProof.Rows
/-! ## zip(list, list) -/
def zipD : List PyData → List PyData → List PyData
  | d :: ds, e :: es => .tuple [d, e] :: zipD ds es
  | _, _ => []
theorem zipD_get : ∀ (ds es : List PyData) (i : Nat) (d e : PyData), ds[i]? = some d → es[i]? = some e → (zipD ds es)[i]? = some (.tuple [d, e])
  | [], _, i, _, _, h, _ => by simp at h
  | _ :: _, [], i, _, _, _, h => by simp at h
  | x :: ds, y :: es, 0, d, e, h1, h2 => by
    rw [show x = d from Option.some.inj h1, show y = e from Option.some.inj h2]
    rfl
  | x :: ds, y :: es, i + 1, d, e, h1, h2 => by
    have q := zipD_get ds es i d e (by simpa using h1) (by simpa using h2)
    exact q
theorem zipD_len : ∀ (ds es : List PyData), (zipD ds es).length = min ds.length es.length
  | [], _ => by simp [zipD]
  | _ :: _, [] => by simp [zipD]
  | _ :: ds, _ :: es => by
    unfold zipD
    rw [List.length_cons, List.length_cons, List.length_cons, zipD_len ds es]
    omega
section
variable {K : PySem.W.Frag}
theorem walkZ {a b : Addr} {ds es : List PyData} : WalkD K (Itz K a b) [(.ref a, .list ds), (.ref b, .list es)] (zipD ds es) where
  goes := fun i H hi ⟨O, h⟩ => by
    rw [zipD_len] at hi
    have h1 := h (.ref a, .list ds) (List.mem_cons_self ..)
    have h2 := h (.ref b, .list es) (List.mem_cons_of_mem _ (List.mem_singleton.mpr rfl))
    cases h1 with
    | lst hx _ hd =>
      cases h2 with
      | lst hy _ hd2 =>
        obtain ⟨v, e, _⟩ := hd.get (List.getElem?_eq_getElem (by omega : i < ds.length))
        obtain ⟨v2, e2, _⟩ := hd2.get (List.getElem?_eq_getElem (by omega : i < es.length))
        exact ⟨_, _, v, v2, SqL.of hx, SqL.of hy, e, e2⟩
  stops := fun H ⟨O, h⟩ => by
    have h1 := h (.ref a, .list ds) (List.mem_cons_self ..)
    have h2 := h (.ref b, .list es) (List.mem_cons_of_mem _ (List.mem_singleton.mpr rfl))
    cases h1 with
    | lst hx _ hd =>
      cases h2 with
      | lst hy _ hd2 =>
        have l1 := hd.length
        have l2 := hd2.length
        exact ⟨_, _, SqL.of hx, SqL.of hy, by rw [zipD_len]; omega⟩
  yields := fun i H v H' hi _ y O _ h => by
    obtain ⟨T, x, y', rfl, hT, rfl, y1, y2⟩ := y
    have h1 := h (.ref a, .list ds) (List.mem_cons_self ..)
    have h2 := h (.ref b, .list es) (List.mem_cons_of_mem _ (List.mem_singleton.mpr rfl))
    cases h1 with
    | lst hx _ hd =>
      cases h2 with
      | lst hy _ hd2 =>
        obtain ⟨d, e, p⟩ := hd.getV (y1 _ (SqL.of hx))
        obtain ⟨d2, e2, p2⟩ := hd2.getV (y2 _ (SqL.of hy))
        exact ⟨same_new hT, _, zipD_get ds es i d d2 e e2, pairD hT p p2⟩
end
def itZip (f g : EM) : IM := fun r w => (f r w).bind fun d w1 => (g r w1).bind fun e w2 =>
  match d, e with
  | .list ds, .list es => .ok (zipD ds es) w2
  | _, _ => .bad
section
variable {C : Dc} {σ : L2.St} {H : Hp} {R : It → Hp → Prop}
theorem pin2 {K : PySem.W.Frag} {O : Addr → Prop} {v u : V} {d e : PyData} (h : Do K H O v d) (h2 : Do K H O u e) : Pinned K H O [(v, d), (u, e)] := fun p hp => by
  rcases List.mem_cons.mp hp with z | z
  · rw [z]; exact h
  · rw [List.mem_singleton.mp z]; exact h2
theorem red_itZip {f g : EM} (h : tI C (itZip f g) σ H R) : iZip C.K (tCons (tD C f) (tCons (tD C g) tNil)) σ H R := by
  obtain ⟨P, ow, r, w, Rr, h⟩ := h
  refine ⟨P, ow, r, w, Rr, gE.bind h fun d w1 v H1 _ k1 R1 p1 h1 => ?_⟩
  refine ⟨P, ow, r, w1, R1, gE.bind h1 fun e w2 u H2 _ k2 R2 p2 h2 => ?_⟩
  have q1 := Do.keep k2 Rr.subO p1
  cases d with
  | list ds =>
    cases e with
    | list es =>
      cases id q1 with
      | @lst a xs _ hx n hd =>
        cases id p2 with
        | @lst b ys _ hy n2 hd2 =>
          exact ⟨a, b, xs, ys, rfl, SqL.of hx, SqL.of hy, h2 (Itz C.K a b, _) H2 .refl R2 ⟨pin2 q1 p2, walkZ⟩⟩
    | _ => exact h2.elim
  | _ => cases e <;> exact h2.elim
end
theorem iZp {X : Cx} {c : Cn} {W : XW} {e1 e2 : Expr} {f g : EM} {p pos tpos : Pos} {elts : List Expr} {kk : Nat} (hg : Gl X "zip") (hm : X.mg "zip" = none) (h1 : PE X e1 (tD (dc X c W) f)) (h2 : PE X e2 (tD (dc X c W) g)) (hs : starEach [e1, e2] X.env = (false, eval e1 X.env) :: starEach [e2] X.env := by rfl) (hs' : ((backTo pos (starEach [e2] X.env)).any fun x => x.fst) = false := by rfl) (hs2 : starEach [e2] X.env = (false, eval e2 X.env) :: starEach [] X.env := by rfl) :
    PI X (.Tuple elts kk tpos) (.Call (.Name "zip" p) [e1, e2] [] pos) (tI (dc X c W) (itZip f g)) := PI.imp (pi_zip hg hm (pa_cons h1 (pa_cons h2 pa_nil hs2) hs) hs hs') fun _ _ _ => red_itZip
end DL

namespace DL
open L2 PySem PySem.Spec PyProof.Rows
/-! ## x, y = [], e where one of both is captured: the tuple is laid and taken apart; e an integer -/
def sOwnV (i j : Nat) (g : EM) : SM := fun r w => (g r w).bindS fun e w1 =>
  match e with
  | .int n => .nx ((r.set i (.own [])).set j (.val (.int n))) w1
  | _ => .bad
theorem red_ownV {C : Dc} {D : Ends} {i j : Nat} (hij : i ≠ j) {g : EM} {σ : L2.St} {H : Hp} (h : tS C (sOwnV i j g) D σ H) :
    tAsg (tTup (tCons (tLst tNil) (tCons (tD C g) tNil))) (gTup C.K 2 (gCons (gName i) (gCons (gName j) gNil))) D σ H := by
  obtain ⟨P, ow, r, w, R, h⟩ := h
  refine ⟨Nat.zero_le _, fun p hp => ?_⟩
  have Rg := R.setOwn (ds := []) (xs := []) i hp .nil
  have R1 := R.new (o := .lst []) hp
  refine ⟨P, ow, r, w, R1, gE.bindS h fun e w1 v H1 _ k1 R2 p1 h1 => ?_⟩
  cases e with
  | int n =>
    have Rg2 := Rg.after k1 R2.st
    refine ⟨by show 2 ≤ sizeLine; rw [sizeLine_eq]; decide, fun q hq => ⟨q, _, rfl, SqT.of upd_same, rfl, _, _, rfl, _, _, rfl, rfl, ?_⟩⟩
    exact h1 _ _ _ ((Rg2.new (o := .tup [.ref p, v]) hq).setVal j (by cases p1; exact .int n))
  | _ => exact h1.elim
theorem stOwnV {X : Cx} {c : Cn} {W : XW} {i j : Nat} {x y : Str} {b : Expr} {g : EM} {px py pl pt pos : Pos} {kt k2 pt2} (hc : X.calm = true) (hN : X.N.Nodup) (hi : X.N[i]? = some x) (hj : X.N[j]? = some y) (hij : i ≠ j)
    (hx : Loc X.env.scope x) (hy : Loc X.env.scope y) (hfx : X.fn x = true ∨ X.env.scope.names.lookup x = some .local) (hfy : X.fn y = true ∨ X.env.scope.names.lookup y = some .local) (hb : PE X b (tD (dc X c W) g))
    (hw : swappedStores [.Tuple [.Name x px, .Name y py] kt pt] (.Tuple [.List [] pl, b] k2 pt2) X.env = pure none)
    (hs : swapsWithSole [.Tuple [.Name x px, .Name y py] kt pt] (.Tuple [.List [] pl, b] k2 pt2) pos.line X.env = pure false := by rfl)
    (h1 : starEach [.List [] pl, b] X.env = (false, eval (.List [] pl) X.env) :: starEach [b] X.env := by rfl) (h2 : starEach [b] X.env = (false, eval b X.env) :: starEach [] X.env := by rfl) :
    PS X (.Assign [.Tuple [.Name x px, .Name y py] kt pt] (.Tuple [.List [] pl, b] k2 pt2) pos) (tS (dc X c W) (sOwnV i j g)) :=
  PS.imp (ps_asg (pe_tup (pa_cons (pe_lst pa_nil) (pa_cons hb pa_nil h2) h1)) (pg_tup hc (pgs_cons (pg_name hN hi hx hfx) (pgs_cons (pg_name hN hj hy hfy) pgs_nil))) hs hw) fun _ _ _ => red_ownV hij
end DL

namespace DL
open L2 PySem PySem.Spec PyProof.Rows
/-! ## errors with one thing in them: raised -/
/-- what an error's one thing is called -/
def fldOf (n : Str) : Str := if n = "TooGreat" then "most" else if n = "BadParameter" ∨ n = "BadBook" then "value" else if n = "NoTalk" then "pair" else "place"
/-- what is wished of our errors, where WX is wished of all -/
def xw (mg : Str → Option Value) (K : PySem.W.Frag) (c : Cn) (Y : WX) : XW := fun ow n x _ σ H => ∀ (Ce d : Addr) (v : V), mg n = some (.ref Ce) → H d = some (.xd [(fldOf n, v)]) → Do K H (Ow c.O0 ow) v x → Y (.ref Ce) (some d) σ H
/-- __init__ of a new error -/
def spInit (K : PySem.W.Frag) (n : Str) : Sp := fun vs H Q _ => ∃ (a C : Addr) (y : V), vs = [.ref a, y] ∧ OexC K C ∧ PySem.W.findIn K (.ref C) (fldOf n) = some none ∧ H a = some (exo a C none) ∧
  ∀ dx, H dx = none → dx ≠ a → Q .non (upd (upd H dx (exd dx [(fldOf n, y)])) a (exo a C (some dx)))
/-- the first def of a class's text -/
def inCls (s : Stmt) : Stmt :=
  match s with
  | .ClassDef _ _ _ body .. => body.getD 0 s
  | _ => s
structure ErrC (P : Program) (w : World) (K : PySem.W.Frag) (mg : Str → Option Value) (base : Heap) (n : Str) : Prop where
  ex : ∃ (C fI : Addr) (fd : FuncData), mg n = some (.ref C) ∧ OexC K C ∧ PySem.W.findIn K (.ref C) (fldOf n) = some none ∧ PySem.W.findIn K (.ref C) "__init__" = some (some (.ref fI)) ∧ PySem.W.typeIn K (.ref fI) = some (.type "function") ∧
    FnOk P w K mg base CX0 1 fI fd [("self" : Str), fldOf n] (spInit K n) ∧ Binds K fd ["self", fldOf n] []
def sRaise (n : Str) (f : EM) : SM := fun r w => (f r w).bindS fun x w1 => .ex n x w1
theorem upd_back {H1 : Hp} {a dx C : Addr} {fs : List (Str × V)} (ha : H1 a = none) (hd : dx ≠ a) : upd (del (upd (upd (upd H1 a (exo a C none)) dx (exd dx fs)) a (exo a C (some dx))) a) dx (.xd fs) = upd H1 dx (.xd fs) := by
  funext b
  by_cases h1 : b = dx
  · rw [h1, upd_same, upd_same]
  · rw [upd_ne h1, upd_ne h1]
    by_cases h2 : b = a
    · rw [h2, del_same, ha]
    · rw [del_ne h2, upd_ne h2, upd_ne h1, upd_ne h2]
section
variable {X : Cx} {c : Cn} {W : XW} {Y : WX} {n : Str} {e : Expr} {p pos pos2 : Pos} {fe : EM}
theorem red_raise {C : Addr} {σ : L2.St} {H : Hp} {D : Ends} {K : PySem.W.Frag} {mg : Str → Option Value} (hC : mg n = some (.ref C)) (T : OexC K C) (hno : PySem.W.findIn K (.ref C) (fldOf n) = some none) (hW : ∀ ow n x w σ H, W ow n x w σ H → xw mg K c Y ow n x w σ H)
    (h : tS ⟨mg, K, c, W⟩ (sRaise n fe) D σ H) : tMkO C (spInit K n) [] (tCons (tD ⟨mg, K, c, W⟩ fe) tNil) σ H fun cls d H' => Y cls d σ H' := by
  obtain ⟨P, ow, r, w, R, h⟩ := h
  refine ⟨P, ow, r, w, R, gE.bindS h fun x w1 v H1 _ k1 R1 p1 h1 => ⟨by show 1 ≤ 1000; omega, fun a ha => ?_⟩⟩
  refine ⟨a, C, v, rfl, T, hno, upd_same, fun dx hd hn => ?_⟩
  have hd1 : H1 dx = none := by rw [upd_ne hn] at hd; exact hd
  refine ⟨rfl, dx, [(fldOf n, v)], upd_same, by rw [upd_ne hn, upd_same], hd1, ?_⟩
  rw [upd_back ha hn]
  exact hW _ _ _ _ _ _ (h1 ow r σ _ (R1.new hd1)) C dx v hC upd_same (p1.keep (M := fun _ => False) (.new hd1) fun _ z => z.elim)
theorem stRaise {k : Nat} (hc : X.calm = true) (T : ErrC X.prog X.w X.K X.mg X.base n) (hr : Room k X.A) (hk : 2 ≤ k) (tk : Takes X Y) (hW : ∀ ow n x w σ H, W ow n x w σ H → xw X.mg X.K c Y ow n x w σ H) (hg : Gl X n) (he : PE X e (tD (dc X c W) fe))
    (hdb : (n == ("__debug__" : Str)) = false := by decide) (hs : starEach (e :: []) X.env = (false, eval e X.env) :: starEach [] X.env := by rfl) (hpl : (backTo pos (starEach [] X.env)).any (·.1) = false := by rfl) :
    PS X (.Raise (some (.Call (.Name n p) [e] [] pos)) none pos2) (tS (dc X c W) (sRaise n fe)) := by
  obtain ⟨C, fI, fd, hC, T1, hno, iC, tI, F1, hb⟩ := T.ex
  exact PS.imp (ps_raise hc tk (pmk_oex T1 iC tI F1 (hr.mono hk) hb (.nil) pass0 hg hC (pa_cons he pa_nil hs) hdb hs hpl)) fun D σ H h => red_raise hC T1 hno hW h
end
/-- an error's class by what the written part says -/
theorem errC_mk {P : Program} {w : World} {K : PySem.W.Frag} {mg : Str → Option Value} {base : Heap} {n q2 : Str} {C fI : Addr} {fd : FuncData} {st : Stmt} (hC : mg n = some (.ref C)) (T : OexC K C) (hno : PySem.W.findIn K (.ref C) (fldOf n) = some none)
    (iC : PySem.W.findIn K (.ref C) "__init__" = some (some (.ref fI))) (tI : PySem.W.typeIn K (.ref fI) = some (.type "function")) (F : Fun K "__init__" q2 st fI fd) (S : FnScope [("self" : Str), fldOf n] [("self" : Str), fldOf n] (defScope st))
    (hbody : ∀ X : Cx, X.env.scope = defScope st → X.N = [("self" : Str), fldOf n] → ∃ t0 t1 : TE, PSs X (defBody st) (tOst X.K (fldOf n) t0 t1) ∧ (∀ v0 v1 H Q, t0 [some v0, some v1] H Q = Q v0 H) ∧ ∀ v0 v1 H Q, t1 [some v0, some v1] H Q = Q v1 H) (b : Binds K fd [("self" : Str), fldOf n] []) : ErrC P w K mg base n := by
  refine ⟨C, fI, fd, hC, T, hno, iC, tI, ?_, b⟩
  refine F.ok S (fun vs H Q E h => by obtain ⟨a, C, y, rfl, _⟩ := h; rfl) fun cdv A outer s H vs Q E hr h => ?_
  obtain ⟨t0, t1, hp, h0, h1⟩ := hbody (cxOf CX0 P w K mg base [("self" : Str), fldOf n] q2 (defScope st) fI cdv A outer s H E).nox rfl rfl
  refine ⟨_, hp, ?_⟩
  obtain ⟨a, C2, y, rfl, T2, hno2, ha, hq⟩ := h
  show t1 [some (.ref a), some y] H _
  rw [h1]
  show t0 [some (.ref a), some y] H _
  rw [h0]
  exact ⟨a, C2, rfl, T2, hno2, .inl ⟨ha, fun dx z1 z2 => hq dx z1 z2⟩⟩
end DL

namespace DL
open L2 PySem PySem.Spec PyProof.Rows
/-! ## defs that an error may leave -/
structure FnGX (P : Program) (w : World) (K : PySem.W.Frag) (mg : Str → Option Value) (base : Heap) (k : Nat) (f : Addr) (fd : FuncData) (ps : List Str) (sp : Sp) : Prop where
  len : ∀ vs H Q E, sp vs H Q E → vs.length = ps.length
  run : ∀ (A : Around) (outer : List Env) (s : Shared) (H : Hp) (args : Args) (us : List Value) (vs : List V) (Q : VK) (E : XK), Room k A → A.guards = some [] → Env0 P w K mg base A outer s H → BindsTo s fd args (ps.zip us) → Vals vs us → sp vs H Q E →
    codeAny (model P w) A (.call (.ref f) args) (CR (L2.CX P w) outer P w H s Q E) s
def spX (mg : Str → Option Value) (K : PySem.W.Frag) (n : Nat) (G : FM) : Sp := fun vs H Q E => ∃ (c : Cn) (as : List SV) (w : DS), as.length = n ∧ c.H0 = H ∧ (c.Ok ∧ TkOk K c) ∧ ArgsOk mg K H c.O0 c.sa as vs ∧ StOk c.sa w H ∧
  match G as w with
  | .ok d w' => ∀ v H', Keep (SAd c.sa) H H' → StOk c.sa w' H' → Do K H' c.O0 v d → Q v H'
  | .ex m x w' => ∀ (Ce d : Addr) (v : V) H', mg m = some (.ref Ce) → Keep (SAd c.sa) H H' → StOk c.sa w' H' → H' d = some (.xd [(fldOf m, v)]) → Do K H' c.O0 v x → E (.ref Ce) (some d) H'
  | .bad => False
theorem spX_len {mg : Str → Option Value} {K : PySem.W.Frag} {n : Nat} {G : FM} {vs : List V} {H : Hp} {Q : VK} {E : XK} (h : spX mg K n G vs H Q E) : vs.length = n := by
  obtain ⟨c, as, w, hn, _, _, ha, _⟩ := h
  rw [← ha.1, hn]
theorem spX_of {mg : Str → Option Value} {K : PySem.W.Frag} {n : Nat} {G : FM} {vs : List V} {H : Hp} {Q : VK} {E : XK} (h : spD mg K n G vs H Q E) : spX mg K n G vs H Q E0 := by
  obtain ⟨c, as, w, hn, h0, ok, ha, hst, hG⟩ := h
  refine ⟨c, as, w, hn, h0, ok, ha, hst, ?_⟩
  cases e : G as w with
  | ok d w' => rw [e] at hG; exact hG
  | ex m x w' => rw [e] at hG; exact hG.elim
  | bad => rw [e] at hG; exact hG
section
variable {P : Program} {w : World} {K : PySem.W.Frag} {mg : Str → Option Value} {base : Heap} {k j : Nat} {f : Addr} {fd : FuncData} {ps : List Str} {sp sp' : Sp}
theorem FnGX.mono (F : FnGX P w K mg base j f fd ps sp) (h : j ≤ k) : FnGX P w K mg base k f fd ps sp := ⟨F.len, fun A o s H args us vs Q E hr => F.run A o s H args us vs Q E (hr.mono h)⟩
/-- where no error leaves it -/
theorem FnGX.calm {n : Nat} {G : FM} (F : FnGX P w K mg base k f fd ps (spX mg K n G)) : FnG P w K mg base k f fd ps (spD mg K n G) :=
  ⟨fun vs H Q E h => F.len vs H Q E0 (spX_of h), fun A o s H args us vs Q E hr hg he hb hv h => codeAny_mono (F.run A o s H args us vs Q E0 hr hg he hb hv (spX_of h)) fun r s' q => by
    cases r with
    | error e =>
      obtain ⟨_, _, _, _, _, _, _, _, _, _, _, _, z⟩ := (show L2.CX P w o H s E0 e s' from q)
      exact z.elim
    | ok fl =>
      cases fl with
      | ret u => exact q
      | next => exact q
      | brk => exact q
      | cont => exact q⟩
/-- a def's promise by its body -/
theorem fn_GX {x qual : Str} {st : Stmt} {N : List Str} (F : Fun K x qual st f fd) (S : FnScope N ps (defScope st)) (len : ∀ vs H Q E, sp vs H Q E → vs.length = ps.length)
    (hbody : ∀ (cdv : Value) (A : Around) (outer : List Env) (s : Shared) (H : Hp) (vs : List V) (Q : VK) (E : XK), Room k (A.deeper (envOfC qual (defScope st) s.heap.objs.size f cdv)) → A.guards = some [] → cdv = fd.code → sp vs H Q E →
      ∃ t, PSs (cxOf (L2.CX P w) P w K mg base N qual (defScope st) f cdv A outer s H E) (defBody st) t ∧ t { nx := fun _ H' => Q .non H', rt := Q } (start N vs) H) : FnGX P w K mg base (k + 1) f fd ps sp := by
  obtain ⟨oc, od, kV, doc, pm, an, cdv, ct, osl, rfl, lk, hcd⟩ := F.ex
  refine ⟨len, fun A outer s H args us vs Q E hr hgd e0 hb r hsp => ?_⟩
  have kept := fun b o e => (e0.bs b o e).1
  have KX : K.In s.heap := e0.mod.kin.keeps kept
  have lim : s.heap.NoLimit := e0.mod.nolimit.keeps kept
  have kinds : ∀ y ∈ ps.zip us, (defScope st).names.lookup y.1 = some .local ∨ ((defScope st).names.lookup y.1 = some .cell ∧ ((cellsFrom (s.heap.objs.size + 1) (defScope st).names []).lookup y.1).isSome = true) := by
    rintro ⟨nm, v⟩ hy
    rcases S.par nm (List.of_mem_zip hy).1 with q | q
    · exact .inl q
    · exact .inr ⟨q, PySem.W.cellsFrom_some _ _ _ (.inl q)⟩
  refine codeAny_call_function hr.depth (KX _ _ lk) rfl S.co S.gen rfl (PySem.W.codeRec_of KX hcd) (hb _ _ _ _ ?_)
  refine wpAny_newFunctionEnv_cells S.kind kinds fun env he s1 xx => ?_
  subst he
  refine ⟨lim.keeps xx.toInCall.keep, codeAny_func ?_⟩
  obtain ⟨t, ht, hq⟩ := hbody cdv A outer s H vs Q E (hr.deeper _) hgd rfl hsp
  have I : Inv (cxOf (L2.CX P w) P w K mg base N qual (defScope st) f cdv A outer s H E) [] (start N vs) H s1 := inv_start S hr.hd e0 (len _ _ _ _ hsp) r xx
  refine wpAny_mono (ht.run [] s1 (start N vs) H _ I hq) (fun fl s2 hs => ?_) fun _ _ hs => hs
  cases fl with
  | ret u =>
    obtain ⟨v, σ2, H2, J, rv, q⟩ := hs
    exact ⟨v, H2, J.os, J.bare, J.base, J.hok, rv, q⟩
  | next =>
    obtain ⟨σ2, H2, J, q⟩ := hs
    exact ⟨V.non, H2, J.os, J.bare, J.base, J.hok, rfl, q⟩
  | brk =>
    obtain ⟨_, _, _, q⟩ := hs
    exact q.elim
  | cont =>
    obtain ⟨_, _, _, q⟩ := hs
    exact q.elim
end
def fnX (N : Nat) (body : SM) : FM := fun as w =>
  match body (as ++ List.replicate (N - as.length) .un) w with
  | .nx _ w1 => .ok .none w1
  | .rt d w1 => .ok d w1
  | .ex n x w1 => .ex n x w1
  | _ => .bad
/-- the wish of a def's body -/
abbrev wE (mg : Str → Option Value) (K : PySem.W.Frag) (c : Cn) (E : XK) : XW := xw mg K c fun cls d _ H => E cls d H
theorem fnX_okM {P : Program} {w : World} {K : PySem.W.Frag} {mg : Str → Option Value} {base : Heap} {k : Nat} {f : Addr} {fd : FuncData} {x qual : Str} {st : Stmt} {N ps : List Str} {body : SM} (F : Fun K x qual st f fd) (S : FnScope N ps (defScope st)) (hpn : ps.length ≤ N.length)
    (hb : ∀ (cdv : Value) (A : Around) (outer : List Env) (s : Shared) (H : Hp) (E : XK) (c : Cn), Room k (A.deeper (envOfC qual (defScope st) s.heap.objs.size f cdv)) → A.guards = some [] → cdv = fd.code →
      PSs (cxOf (L2.CX P w) P w K mg base N qual (defScope st) f cdv A outer s H E) (defBody st) (tS (dc (cxOf (L2.CX P w) P w K mg base N qual (defScope st) f cdv A outer s H E) c (wE mg K c E)) body)) :
    FnGX P w K mg base (k + 1) f fd ps (spX mg K ps.length (fnX N.length body)) := by
  refine fn_GX F S (fun vs H Q E h => spX_len h) fun cdv A outer s H vs Q E hr hgd hcd h => ?_
  obtain ⟨c, as, wd, hn, h0, ok, ha, hst, hG⟩ := h
  refine ⟨_, hb cdv A outer s H E c hr hgd hcd, [], fun _ => none, as ++ List.replicate (N.length - as.length) .un, wd, ?_, ?_⟩
  · refine ⟨ok.1, ?_, fun i sv e => ?_, by rw [h0]; exact .refl, (fun _ _ e => nomatch e), (fun _ _ _ e => nomatch e), hst, fun p hp => absurd hp (by simp), ok.2⟩
    · unfold L2.start
      rw [List.length_append, List.length_append, List.length_replicate, List.length_replicate, List.length_map, ha.1]
    · have hsub : ∀ b, Ow c.O0 (fun _ => none) b → c.O0 b := fun b z => z.elim id fun ⟨_, z⟩ => nomatch z
      unfold L2.start
      by_cases hi : i < as.length
      · rw [List.getElem?_append_left hi] at e
        obtain ⟨v, ev, q⟩ := ha.2 i sv e
        refine ⟨some v, ?_, ?_⟩
        · rw [List.getElem?_append_left (by rw [List.length_map, ← ha.1]; exact hi), List.getElem?_map, ev]
          rfl
        · exact q.weak hsub fun _ _ => rfl
      · rw [List.getElem?_append_right (by omega)] at e
        have e2 := List.getElem?_eq_some_iff.mp e
        obtain ⟨h1, h2⟩ := e2
        rw [List.getElem_replicate] at h2
        subst h2
        rw [List.length_replicate] at h1
        refine ⟨none, ?_, trivial⟩
        rw [List.getElem?_append_right (by rw [List.length_map, ← ha.1]; omega), List.getElem?_replicate, List.length_map, ← ha.1, if_pos h1]
  · show gS _ (body (as ++ List.replicate (N.length - as.length) .un) wd) [] _
    unfold fnX at hG
    cases e : body (as ++ List.replicate (N.length - as.length) .un) wd with
    | nx r1 w1 =>
      rw [e] at hG
      exact fun ow σ H' R => hG .non H' (h0 ▸ R.keep) R.st .non
    | rt d w1 =>
      rw [e] at hG
      exact fun v H' kp st dd => hG v H' (h0 ▸ kp) st dd
    | bk r1 w1 => rw [e] at hG; exact hG.elim
    | ct r1 w1 => rw [e] at hG; exact hG.elim
    | ex n x w1 =>
      rw [e] at hG
      exact fun ow r σ H' R Ce d v hm ed dd => hG Ce d v H' hm (h0 ▸ R.keep) R.st ed (dd.weak fun b z => .inl z)
    | bad => rw [e] at hG; exact hG.elim
theorem fnX_ok {P : Program} {w : World} {K : PySem.W.Frag} {mg : Str → Option Value} {base : Heap} {k : Nat} {f : Addr} {fd : FuncData} {x qual : Str} {st : Stmt} {N ps : List Str} {body : SM} (F : Fun K x qual st f fd) (S : FnScope N ps (defScope st)) (hpn : ps.length ≤ N.length)
    (hb : ∀ (cdv : Value) (A : Around) (outer : List Env) (s : Shared) (H : Hp) (E : XK) (c : Cn), Room k (A.deeper (envOfC qual (defScope st) s.heap.objs.size f cdv)) → A.guards = some [] →
      PSs (cxOf (L2.CX P w) P w K mg base N qual (defScope st) f cdv A outer s H E) (defBody st) (tS (dc (cxOf (L2.CX P w) P w K mg base N qual (defScope st) f cdv A outer s H E) c (wE mg K c E)) body)) :
    FnGX P w K mg base (k + 1) f fd ps (spX mg K ps.length (fnX N.length body)) :=
  fnX_okM F S hpn fun cdv A outer s H E c hr hgd _ => hb cdv A outer s H E c hr hgd
/-! ## called -/
structure CalX (P : Program) (w : World) (K : PySem.W.Frag) (mg : Str → Option Value) (base : Heap) (k : Nat) (x : Str) (st : Stmt) (ps : List Str) (n : Nat) (G : FM) : Prop where
  ex : ∃ (f : Addr) (fd : FuncData), FnGX P w K mg base k f fd ps (spX mg K n G) ∧ mg x = some (.ref f) ∧ PySem.W.keepIn K (.ref f) = true ∧ Binds K fd ps [] ∧ Fun K x x st f fd
theorem calX {P : Program} {w : World} {K : PySem.W.Frag} {mg : Str → Option Value} {base : Heap} {k : Nat} {x : Str} {ps : List Str} {n : Nat} {G : FM} {f : Addr} {fd : FuncData} {st : Stmt} (F : Fun K x x st f fd) (G0 : FnGX P w K mg base k f fd ps (spX mg K n G)) (m : mg x = some (.ref f)) (b : Binds K fd ps []) : CalX P w K mg base k x st ps n G :=
  ⟨f, fd, G0, m, F.kp, b, F⟩
theorem CalX.calm {P : Program} {w : World} {K : PySem.W.Frag} {mg : Str → Option Value} {base : Heap} {k : Nat} {x : Str} {ps : List Str} {n : Nat} {G : FM} {st : Stmt} (C : CalX P w K mg base k x st ps n G) : CalD P w K mg base k x st ps n G := by
  obtain ⟨f, fd, F, m, kp, b, F2⟩ := C.ex
  exact ⟨f, fd, F.calm, m, kp, b, F2⟩
def eFnX (G : FM) (f : AM) : EM := fun r w => (f r w).bind fun as w1 => G as w1
section
variable {X : Cx} {c : Cn} {W : XW} {Y : WX} {k : Nat} {f : Addr} {fd : FuncData} {ps ks : List Str} {G : FM} {fa : AM} {x : Str} {p pos : Pos} {e : Expr} {es : List Expr} {st : Stmt} {n : Nat}
theorem red_fnX {mg : Str → Option Value} {K : PySem.W.Frag} {σ : L2.St} {H : Hp} {n : Nat} (hn : ArN n fa) (hW : ∀ ow n x w σ H, W ow n x w σ H → xw mg K c Y ow n x w σ H) {Q : VK} (h : tD ⟨mg, K, c, W⟩ (eFnX G fa) σ H Q) :
    tA ⟨mg, K, c, W⟩ fa σ H fun vs H1 => spX mg K n G vs H1 Q (WE Y σ) := by
  obtain ⟨P, ow, r, w, R, h⟩ := h
  refine ⟨P, ow, r, w, R, gE.bind h fun as w1 vs H1 eq k1 R1 p1 h1 => ?_⟩
  refine ⟨⟨c.sa, Ow c.O0 ow, H1⟩, as, w1, hn _ _ _ _ eq, rfl, ⟨⟨R1.subO, R1.dom'⟩, R1.tk⟩, p1, R1.st, ?_⟩
  cases e : G as w1 with
  | ok d w' =>
    rw [e] at h1
    exact fun v H' kp st dd => h1 v H' kp (R1.after kp st) dd
  | ex m y w' =>
    rw [e] at h1
    exact fun Ce d v H' hm kp st ed dd => hW _ _ _ _ _ _ (h1 H' kp (R1.after kp st)) Ce d v hm ed dd
  | bad => rw [e] at h1; exact h1
theorem pe_callX {sp : Sp} {t : TA} (F : FnGX X.prog X.w X.K X.mg X.base k f fd ps sp) (hr : Room k X.A) (hgd : X.A.guards = some []) (tk : Takes X Y) (hg : Gl X x) (hm : X.mg x = some (.ref f)) (hk : PySem.W.keepIn X.K (.ref f) = true) (hb : Binds X.K fd ps [])
    (ha : PA X (e :: es) t) (hdb : (x == ("__debug__" : Str)) = false := by decide) (he : starEach (e :: es) X.env = (false, eval e X.env) :: starEach es X.env := by rfl) (hpl : (backTo pos (starEach es X.env)).any (·.1) = false := by rfl) :
    PE X (.Call (.Name x p) (e :: es) [] pos) (fun σ H Q => t σ H fun vs H1 => sp vs H1 Q (WE Y σ)) := by
  refine ⟨fun pins s σ H Q I h => wpAny_Call_Name_kw (ld_glob I hg hm ?_ hdb)⟩
  refine PySem.W.callWith_K (h₀ := X.base) I.ok.mod.kin hk (thn (ha.run pos pins s σ H _ I h) fun us s1 ⟨vs, H1, I1, r, q⟩ => ⟨I1.kIn, ?_⟩) he hpl
  have hl : (us ++ []).length = ps.length := by rw [List.append_nil, ← r.length]; exact F.len _ _ _ _ q
  have bb := hb s1 us I1.kIn hl
  rw [List.append_nil] at bb
  refine wpAny_call (codeAny_mono (F.run X.A X.stack s1 H1 _ us vs Q (WE Y σ) hr hgd I1.env0 bb r q) fun r s' hq => ?_)
  cases r with
  | error er => exact passAt tk σ pins H1 s1 er s' I1 hq
  | ok fl =>
    cases fl with
    | ret u => exact I1.after hq
    | next => exact hq
    | brk => exact hq
    | cont => exact hq
theorem dFcX (C : CalX X.prog X.w X.K X.mg X.base k x st ps n G) (hr : Room k X.A) (hgd : X.A.guards = some []) (tk : Takes X Y) (hW : ∀ ow n x w σ H, W ow n x w σ H → xw X.mg X.K c Y ow n x w σ H) (hg : Gl X x) (ha : PA X (e :: es) (tA (dc X c W) fa)) (hn : ArN n fa)
    (hdb : (x == ("__debug__" : Str)) = false := by decide) (he : starEach (e :: es) X.env = (false, eval e X.env) :: starEach es X.env := by rfl) (hpl : (backTo pos (starEach es X.env)).any (·.1) = false := by rfl) :
    PE X (.Call (.Name x p) (e :: es) [] pos) (tD (dc X c W) (eFnX G fa)) := by
  obtain ⟨f, fd, F, m, kp, b, _⟩ := C.ex
  exact PE.imp (pe_callX F hr hgd tk hg m kp b ha hdb he hpl) fun σ H Q h => red_fnX hn hW h
end
end DL

namespace DL
open L2 PySem PySem.Spec PyProof.Rows
/-! ## a try with clauses of all kinds: one class or two, with a name or without one -/
structure Cl where
  mt : Value → Option Bool
  sl : Option Nat
  ts : Addr → Value → Option Addr → TS
def endsAt (sl : Option Nat) (D : Ends) : Ends :=
  match sl with
  | none => D
  | some i => { nx := fun σ H => D.nx (σ.set i none) H, rt := D.rt, bk := fun σ H => D.bk (σ.set i none) H, ct := fun σ H => D.ct (σ.set i none) H }
def putAt (sl : Option Nat) (a : Addr) (σ : L2.St) : L2.St :=
  match sl with
  | none => σ
  | some i => σ.set i (some (.ref a))
def wCls (Y : WX) (D : Ends) : List Cl → WX
  | [] => Y
  | q :: r => fun cls d σ H => ∃ b, q.mt cls = some b ∧ (b = true → ∀ a, H a = none → q.ts a cls d (endsAt q.sl D) (putAt q.sl a σ) H) ∧ (b = false → wCls Y D r cls d σ H)
/-- a clause's test -/
def TstOk (X : Cx) (t : Expr) (mt : Value → Option Bool) : Prop := ∀ (a : Addr) (oe : Obj) (cls : Value) (pn : List (Addr × Obj)) (σ : L2.St) (H : Hp) (s : Shared) (b : Bool) (Q : Bool → Shared → Prop) (E : Value → Shared → Prop),
  Inv (X.suite a ((a, oe) :: pn)) [] σ H s → oe.cls = cls → mt cls = some b → (∀ h', (∀ q o, s.heap.get? q = some o → h'.get? q = some o) → Q b { s with heap := h' }) →
  wpAny (model X.prog X.w) (X.A.mark (some (.ref a))) (eval t X.env) (fun c s1 => wpAny (model X.prog X.w) (X.A.mark (some (.ref a))) (excMatches (.ref a) c) Q E s1) E s
section
variable {X : Cx}
theorem ld_cls {a : Addr} {oe : Obj} {pn : List (Addr × Obj)} {σ : L2.St} {H : Hp} {s : Shared} {x : Str} {c : Value} {np : Pos} {Q : Value → Shared → Prop} {E : Value → Shared → Prop} (I : Inv (X.suite a ((a, oe) :: pn)) [] σ H s) (hc : Names X x c) (q : Q c s) :
    wpAny (model X.prog X.w) (X.A.mark (some (.ref a))) (eval (.Name x np) X.env) Q E s := by
  obtain ⟨h1, h2, h3 | ⟨h3, h4, h5⟩⟩ := hc
  · exact ld_glob (X := X.suite a ((a, oe) :: pn)) I h1 h3 q h2
  · exact ld_blt (X := X.suite a ((a, oe) :: pn)) I h1 h3 h4 q h5 h2
theorem typ_at {a : Addr} {oe : Obj} {h : Heap} (e : h.get? a = some oe) : PySem.W.Looks (model X.prog X.w) h (typeOf (.ref a)) oe.cls := fun A Q E s k q => wpAny_typeOf_ref (k _ _ e) q
theorem tst_one {x : Str} {np : Pos} {c : Value} (hc : Names X x c) : TstOk X (.Name x np) (fun cls => PySem.W.exmOne X.K cls c) := by
  intro a oe cls pn σ H s b Q E I hcl hm q
  subst hcl
  have hp := (I.pin (a, oe) (List.mem_append_left _ List.mem_cons_self)).1
  refine ld_cls I hc ((PySem.W.exm_one (M := model X.prog X.w) I.kIn (typ_at hp) hm).here ?_)
  exact q s.heap fun _ _ z => z
theorem tst_two {x y : Str} {np mp tp : Pos} {kt} {c e : Value} (hc : Names X x c) (he : Names X y e) (h1 : backTo tp (starEach [.Name x np, .Name y mp] X.env) = [(false, eval (.Name x np) X.env), (false, eval (.Name y mp) X.env)] := by rfl) :
    TstOk X (.Tuple [.Name x np, .Name y mp] kt tp) (fun cls => PySem.W.exmAny X.K cls [c, e]) := by
  intro a oe cls pn σ H s b Q E I hcl hm q
  subst hcl
  have hp := (I.pin (a, oe) (List.mem_append_left _ List.mem_cons_self)).1
  refine wpAny_Tuple_spliced ?_
  rw [h1]
  refine Calls.spliced_cons (ld_cls I hc (Calls.spliced_cons (ld_cls I he (Calls.spliced_nil ⟨?_, ?_⟩))))
  · show 2 ≤ sizeLine
    rw [sizeLine_eq]; decide
  · have kp : ∀ q o, s.heap.get? q = some o → (s.heap.push { cls := .type "tuple", data := .seq [c, e].toArray }).get? q = some o := fun q o z => Heap.get?_push_of_some _ z
    refine (PySem.W.exm_tup2 (M := model X.prog X.w) (I.kIn.keeps kp) (typ_at (kp _ _ hp)) (Heap.get?_push_size _ rfl) hm).here ?_
    exact q _ kp
end
inductive ClsOk (X : Cx) : List ExceptHandler → List Cl → Prop
  | nil : ClsOk X [] []
  | bare {t : Expr} {mt : Value → Option Bool} {ts : Addr → Value → Option Addr → TS} {b0 : Stmt} {su : List Stmt} {hp : Pos} {hs : List ExceptHandler} {l : List Cl} (ht : TstOk X t mt)
      (hsu : ∀ (a : Addr) (oe : Obj) (cls : Value) (d : Option Addr) (pn : List (Addr × Obj)), Zc cls d oe → (∃ vs, oe.data = .fields vs) → PSs (X.suite a ((a, oe) :: pn)) (b0 :: su) (ts a cls d)) (r : ClsOk X hs l) :
      ClsOk X (.ExceptHandler (some t) none (b0 :: su) hp :: hs) (⟨mt, none, ts⟩ :: l)
  | named {t : Expr} {mt : Value → Option Bool} {i : Nat} {n : Str} {ts : Addr → Value → Option Addr → TS} {b0 : Stmt} {su : List Stmt} {hp : Pos} {hs : List ExceptHandler} {l : List Cl} (ht : TstOk X t mt) (hN : X.N.Nodup) (hi : X.N[i]? = some n) (hl : X.env.kindOf n = some .local)
      (hsu : ∀ (a : Addr) (oe : Obj) (cls : Value) (d : Option Addr) (pn : List (Addr × Obj)), Zc cls d oe → (∃ vs, oe.data = .fields vs) → PSs (X.suite a ((a, oe) :: pn)) (b0 :: su) (ts a cls d)) (r : ClsOk X hs l) :
      ClsOk X (.ExceptHandler (some t) (some n) (b0 :: su) hp :: hs) (⟨mt, some i, ts⟩ :: l)
theorem flying_more {B : Heap} {l : List Env} {a : Addr} {Z : Obj → Prop} {h h' : Heap} (f : HandSPX.FlyingZ B l a Z h) (k : ∀ q o, h.get? q = some o → h'.get? q = some o) : HandSPX.FlyingZ B l a Z h' := by
  obtain ⟨f1, f2, f3, oe, vs, T, oT, ts, g1, g2, g3, g4, g5, g6, g7, g8, g9⟩ := f
  exact ⟨fun b o e => k b o (f1 b o e), f2, Heap.FunFrames.of_keeps (fun b o e _ => ⟨o, k b o e, rfl⟩) f3, oe, vs, T, oT, ts, k _ _ g1, g2, g3, g4, g5, g6, k _ _ g7, g8, g9⟩
section
variable {X : Cx} {body : List Stmt} {h0 : ExceptHandler} {hds : List ExceptHandler} {l : List Cl} {pos : Pos} {tb : WX → TS} {Y : WX}
theorem ps_try_cl (hst : X.stack = X.env :: X.outer) (hfl : X.env.frame = some X.env.locals) (tk : Takes X Y)
    (hb : ∀ (W : WX) (pn : List (Addr × Obj)) (xe : Value → Shared → Prop), Takes (X.tr pn xe) W → PassesOwn (model X.prog X.w) X.A X.env xe → PSs (X.tr pn xe) body (tb W))
    (hh : ClsOk X (h0 :: hds) l) : PS X (.Try body (h0 :: hds) [] [] pos) (fun D σ H => tb (wCls Y D l) D σ H) := by
  refine ⟨fun pins s σ H D I h => wpAny_Try_except ?_⟩
  have ok := I.ok
  have hfr : X.A.frames = some (X.env :: X.outer) := by rw [ok.frames, hst]
  refine wpAny_mono ((hb (wCls Y D l) (X.pn ++ pins) (fun e s2 => wpAny (model X.prog X.w) X.A (noteFrame e X.env) (fun _ s3 => wpAny (model X.prog X.w) X.A (setFlight e none)
    (fun _ s4 => wpAny (model X.prog X.w) X.A (handleBy e X.env (h0 :: hds)) (SP X pins D) X.xe s4) X.xe s3) X.xe s2) (fun u s' xx => ?_) PassesOwn.looking).run [] s σ H D (I.toTry _) h) (fun f s1 hsp => ?_) (fun _ _ z => z)
  · obtain ⟨a, B, sI, pq, σ', H', cls, d, rfl, J0, nb, up, sky, na, os, ag, w⟩ := xx
    have J : Inv X pins σ' H' sI := J0.ofTry ok
    have sky2 : Sky B (X.env :: X.outer) a (Zc cls d) X.env.locals s'.heap := hst ▸ sky
    show wpAny (model X.prog X.w) X.A (noteFrame (.ref a) X.env) _ _ s'
    refine Sky.land Zc.steady hfr hfl sky2 fun hA flA upA => ?_
    have go : ∀ {hs2 : List ExceptHandler} {l2 : List Cl}, ClsOk X hs2 l2 → ∀ hB : Heap, HandSPX.FlyingZ B (X.env :: X.outer) a (Zc cls d) hB → sI.heap.UpToSlots hB → wCls Y D l2 cls d σ' H' →
        wpAny (model X.prog X.w) X.A (handleBy (.ref a) X.env hs2) (SP X pins D) X.xe { s' with heap := hB } := by
      intro hs2 l2 hk
      induction hk with
      | nil =>
        intro hB flB upB w
        refine wpAny_handleBy_nil ?_
        obtain ⟨_, _, _, oe, vs, T, _, _, he, _, hd, hT1, _⟩ := id flB
        unfold PySem.passOn
        refine wpAny_bind (wpAny_field he hd hT1 ?_)
        rw [if_neg (by simp : ¬ ((Value.ref T == Value.none) = true))]
        have fin : wpAny (model X.prog X.w) X.A (setFlight (.ref a) X.env.frame) (fun _ sE => wpAny (model X.prog X.w) X.A (throw (.ref a) : Sem Flow) (SP X pins D) X.xe sE) X.xe { s' with heap := hB } := by
          rw [hfl]
          refine HandSPX.setFlight_upZ flB fun hC hhC upC => wpAny_throw (tk _ _ ⟨a, B, sI, pins, σ', H', cls, d, rfl, J, nb, upB.trans upC, ?_, na, os, ag, w⟩)
          exact .inr (.inr (hst ▸ hhC))
        first
          | exact wpAny_bind (wpAny_pure (wpAny_bind fin))
          | exact wpAny_bind fin
      | @bare t mt ts b0 su hp hs3 l3 ht hsu r ih =>
        intro hB flB upB w
        obtain ⟨b, hb1, yes, no⟩ := w
        obtain ⟨oe, vs, he, hz, hd⟩ := flB.there
        have JB : Inv X pins σ' H' { s' with heap := hB } := J.landed nb flB.1 upB os ag
        have nfr : a ∉ frs (X.env :: X.outer) := fun hm => by
          obtain ⟨_, o2, e2, hnf⟩ := flB.2.2.1.mem hm
          rw [he] at e2; cases e2
          exact hnf _ hd
        have nL : a ≠ X.env.locals := fun z => nfr (List.mem_filterMap.mpr ⟨X.env, .head _, by rw [hfl, z]⟩)
        have nF : a ∉ X.fs := fun hm => let ⟨e, hee, q⟩ := List.mem_filterMap.mp hm; nfr (List.mem_filterMap.mpr ⟨e, .tail _ hee, q⟩)
        refine wpAny_handleBy_cons (codeAny_handlers_test (ht a oe cls (X.pn ++ pins) σ' H' _ b _ _ (JB.suite he hd na nL nF) hz.1 hb1 fun hC kC => ?_)) (fun q => by cases q)
        have flC := flying_more flB kC
        have upC : sI.heap.UpToSlots hC := upB.trans (Heap.UpToSlots.of_keeps kC)
        cases b with
        | false => exact (show wpAny _ X.A (handleBy (.ref a) X.env hs3) _ _ { s' with heap := hC } from ih hC flC upC (no rfl))
        | true =>
          refine codeAny_handlers_suite (HandSPX.lands_againZ flC fun hD flD upD => ?_)
          obtain ⟨oe4, vs4, he4, hz4, hd4⟩ := flD.there
          have JD : Inv X pins σ' H' { s' with heap := hD } := J.landed nb flD.1 (upC.trans upD) os ag
          refine wpAny_mono ((hsu a oe4 cls d (X.pn ++ pins) hz4 ⟨_, hd4⟩).run [] _ _ H' _ (JD.suite he4 hd4 na nL nF) (yes rfl a na)) (fun f s6 hsp => ?_) fun _ _ z => False.elim z
          cases f with
          | ret u => exact let ⟨v, σ6, H6, S6, r6, q6⟩ := hsp; ⟨v, σ6, H6, S6.unsuite ok, r6, q6⟩
          | next => exact let ⟨σ6, H6, S6, q6⟩ := hsp; ⟨σ6, H6, S6.unsuite ok, q6⟩
          | brk => exact let ⟨σ6, H6, S6, q6⟩ := hsp; ⟨σ6, H6, S6.unsuite ok, q6⟩
          | cont => exact let ⟨σ6, H6, S6, q6⟩ := hsp; ⟨σ6, H6, S6.unsuite ok, q6⟩
      | @named t mt i n ts b0 su hp hs3 l3 ht hN hi hl hsu r ih =>
        intro hB flB upB w
        obtain ⟨b, hb1, yes, no⟩ := w
        obtain ⟨oe, vs, he, hz, hd⟩ := flB.there
        have JB : Inv X pins σ' H' { s' with heap := hB } := J.landed nb flB.1 upB os ag
        have nfr : a ∉ frs (X.env :: X.outer) := fun hm => by
          obtain ⟨_, o2, e2, hnf⟩ := flB.2.2.1.mem hm
          rw [he] at e2; cases e2
          exact hnf _ hd
        have nL : a ≠ X.env.locals := fun z => nfr (List.mem_filterMap.mpr ⟨X.env, .head _, by rw [hfl, z]⟩)
        have nF : a ∉ X.fs := fun hm => let ⟨e, hee, q⟩ := List.mem_filterMap.mp hm; nfr (List.mem_filterMap.mpr ⟨e, .tail _ hee, q⟩)
        refine wpAny_handleBy_cons (codeAny_handlers_test (ht a oe cls (X.pn ++ pins) σ' H' _ b _ _ (JB.suite he hd na nL nF) hz.1 hb1 fun hC kC => ?_)) (fun q => by cases q)
        have flC := flying_more flB kC
        have upC : sI.heap.UpToSlots hC := upB.trans (Heap.UpToSlots.of_keeps kC)
        cases b with
        | false => exact (show wpAny _ X.A (handleBy (.ref a) X.env hs3) _ _ { s' with heap := hC } from ih hC flC upC (no rfl))
        | true =>
          refine codeAny_handlers_suite_as (HandSPX.lands_againZ flC fun hD flD upD => ?_)
          obtain ⟨oe4, vs4, he4, hz4, hd4⟩ := flD.there
          have JD : Inv X pins σ' H' { s' with heap := hD } := J.landed nb flD.1 (upC.trans upD) os ag
          refine store_ok (X := X.suite a ((a, oe4) :: (X.pn ++ pins))) (v := .ref a) (JD.suite he4 hd4 na nL nF) hN hi (.inl hl) rfl (fun s5 S5 => ?_) (.inr hl)
          refine wpAny_mono ((hsu a oe4 cls d (X.pn ++ pins) hz4 ⟨_, hd4⟩).run [] s5 _ H' _ S5 (yes rfl a na)) (fun f s6 hsp => ?_) fun _ _ z => False.elim z
          have out : ∀ {σ6 : L2.St} {H6 : Hp} {Q : Shared → Prop}, Inv (X.suite a ((a, oe4) :: (X.pn ++ pins))) [] σ6 H6 s6 → (∀ s7, Inv X pins (σ6.set i none) H6 s7 → Q s7) → wpAny (model X.prog X.w) X.A (do bindName X.env n .none; unbindBehindTheSuite X.env n hp) (fun _ s7 => Q s7) X.xe s6 :=
            fun {σ6 H6 Q} S6 hq => gone_ok (S6.unsuite ok) hN hi hl hq
          cases f with
          | ret u => exact let ⟨v, σ6, H6, S6, r6, q6⟩ := hsp; out S6 fun s7 J7 => ⟨v, _, H6, J7, r6, q6⟩
          | next => exact let ⟨σ6, H6, S6, q6⟩ := hsp; out S6 fun s7 J7 => ⟨_, H6, J7, q6⟩
          | brk => exact let ⟨σ6, H6, S6, q6⟩ := hsp; out S6 fun s7 J7 => ⟨_, H6, J7, q6⟩
          | cont => exact let ⟨σ6, H6, S6, q6⟩ := hsp; out S6 fun s7 J7 => ⟨_, H6, J7, q6⟩
    exact go hh hA flA (up.trans upA) w
  · cases f with
    | ret u => exact let ⟨v, σ', H', J', r, q⟩ := hsp; ⟨v, σ', H', J'.ofTry ok, r, q⟩
    | next => exact let ⟨σ', H', J', q⟩ := hsp; wpAny_execs_nil ⟨σ', H', J'.ofTry ok, q⟩
    | brk => exact let ⟨σ', H', J', q⟩ := hsp; ⟨σ', H', J'.ofTry ok, q⟩
    | cont => exact let ⟨σ', H', J', q⟩ := hsp; ⟨σ', H', J'.ofTry ok, q⟩
end
end DL

namespace DL
open L2 PySem PySem.Spec PyProof.Rows
/-! ## an except suite that lays (word, the error's one thing, whether it is the package's) -/
/-- what the written part says of an error's class, for a suite -/
structure ErrH (K : PySem.W.Frag) (mg : Str → Option Value) (m : Str) (C CS : Addr) : Prop where
  g : mg m = some (.ref C)
  gS : mg "SaidError" = some (.ref CS)
  x : XfC K C
  no : PySem.W.findIn K (.ref C) (fldOf m) = some none
  cl : (PySem.W.clsIn K C).isSome = true
  ha : PySem.W.findIn K (.ref C) "__class__" = some (some (.builtin "object.__class__"))
  hn : PySem.W.specialIn K (.builtin "object.__class__") "__get__" = some (some (.builtin "getset_descriptor.__get__"))
  ht : PySem.W.takesIn K (.builtin "object.__class__") = some true
  hm : PySem.W.mroIn K C (.type "object") = some true
  kit : PySem.W.kitOne K (.ref C) (.ref CS) = some true
/-- isinstance of the suite's error -/
def rIsX (C CS a : Addr) (cls : Value) (d : Option Addr) : List V → Hp → VK → Prop := fun xs H Q => ∃ (dd : Addr) (fs : List (Str × V)), xs = [.ref a, .ref CS] ∧ cls = .ref C ∧ d = some dd ∧ H dd = some (.xd fs) ∧ Q (.bl true) H
theorem call_isX {X : Cx} {a C CS : Addr} {m : Str} {cls : Value} {d : Option Addr} {oe : Obj} {pn : List (Addr × Obj)} (T : ErrH X.K X.mg m C CS) (hz : Zc cls d oe) (hf : ∃ vs, oe.data = .fields vs) : CallR (X.suite a ((a, oe) :: pn)) (.builtin "isinstance") (rIsX C CS a cls d) := by
  intro pins s σ H xs us Q I r h
  obtain ⟨dd, fs, rfl, rfl, rfl, hd, q⟩ := h
  cases r with
  | cons r1 r2 =>
    cases r2 with
    | cons r2 r3 =>
      cases r3; cases r1; cases r2
      obtain ⟨hget, _⟩ := I.pin (a, oe) (List.mem_append_left _ List.mem_cons_self)
      obtain ⟨vs, hv⟩ := hf
      obtain ⟨mA, hns, _⟩ := (show ObjOk X.prog X.w H s.heap dd (.xd fs) from I.hok dd _ hd)
      obtain ⟨od, ho, _⟩ := lookIn_ns hns
      have J : PySem.W.InstAt s.heap a oe C (some od) := ⟨hget, hz.1, by unfold PySem.W.notCls; rw [hv] <;> rfl, hz.2.symm ▸ ho⟩
      exact PySem.W.kia_one (PySem.W.kitx_exc T.cl T.x.ga T.x.gg T.x.exC T.ha T.hn T.ht T.hm) I.kIn J T.kit (fun z => nomatch z) fun tk => ⟨.bl true, H, I.tok tk, rfl, q⟩
def tsIt (w f : Str) (C CS : Addr) (i : Nat) (a : Addr) (cls : Value) (d : Option Addr) : TA := tCons (tC (.str w)) (tCons (tXf a cls d C f (tVar i)) (tCons (tCB (rIsX C CS a cls d) (tCons (tVar i) (tCons (tC (.ref CS)) tNil))) tNil))
def tsTup (w f : Str) (C CS : Addr) (i j : Nat) : Addr → Value → Option Addr → TS := fun a cls d => tAsg (tTup (tsIt w f C CS i a cls d)) (gName j)
def tsLst (w f : Str) (C CS : Addr) (i j : Nat) : Addr → Value → Option Addr → TS := fun a cls d => tAsg (tLst (tsIt w f C CS i a cls d)) (gName j)
section
variable {X : Cx} {m w f en x : Str} {C CS a : Addr} {cls : Value} {d : Option Addr} {oe : Obj} {pn : List (Addr × Obj)} {i j : Nat} {jt : Nat} {p1 p2 p3 p4 p5 p6 p7 p8 p9 : Pos} {kt}
theorem pa_it (T : ErrH X.K X.mg m C CS) (hz : Zc cls d oe) (hf : ∃ vs, oe.data = .fields vs) (he : f = fldOf m) (hv : PE (X.suite a ((a, oe) :: pn)) (.Name en p2) (tVar i)) (hv2 : PE (X.suite a ((a, oe) :: pn)) (.Name en p5) (tVar i)) (hgI : Gl X "isinstance") (hmI : X.mg "isinstance" = none) (hgS : Gl X "SaidError")
    (hb : attributeBase (.Name en p2) f X.env (eval (.Name en p2) X.env) = eval (.Name en p2) X.env := by rfl) :
    PA (X.suite a ((a, oe) :: pn)) [.Constant (.str w) jt p1, .Attribute (.Name en p2) f p3, .Call (.Name "isinstance" p4) [.Name en p5, .Name "SaidError" p6] [] p7] (tsIt w f C CS i a cls d) := by
  subst he
  refine pa_cons pe_str (pa_cons (pe_xf T.x T.no hz hf hv hb) (pa_cons (pe_callB (call_isX T hz hf) hgI hmI (by decide +kernel) (pa_cons hv2 (pa_cons (pe_glob (v := .ref CS) hgS T.gS rfl) pa_nil))) pa_nil))
end
end DL

namespace DL
open L2 PySem PySem.Spec PyProof.Rows
/-! ## try: x = e (or e alone), clauses -/
/-- a clause: «except m as i: j = (w, its one thing, True)» as a tuple or a list; «except (..): M» -/
inductive Hd where
  | tup (m : Str) (i j : Nat) (w : Str)
  | lst (m : Str) (i j : Nat) (w : Str)
  | run1 (m : Str) (M : SM)
  | run2 (m m2 : Str) (M : SM)
def noExS : RS → RS
  | .ex _ _ _ => .bad
  | x => x
theorem gS_no {mg : Str → Option Value} {K : PySem.W.Frag} {c : Cn} {W : XW} {x : RS} {P : List (V × PyData)} {D : Ends} (h : gS ⟨mg, K, c, W⟩ (noExS x) P D) : gS ⟨mg, K, c, WF⟩ x P D := by
  cases x with
  | ex n y w => exact h.elim
  | nx r w => exact h
  | rt d w => exact h
  | bk r w => exact h
  | ct r w => exact h
  | bad => exact h
def hdRun : List Hd → Str → PyData → List SV → DS → RS
  | [], n, x, _, w => .ex n x w
  | .tup m i j u :: t, n, x, r, w => if n = m then (if i < r.length then .nx ((r.set j (.val (.tuple [.str u, x, .bool true]))).set i .un) w else .bad) else hdRun t n x r w
  | .lst m i j u :: t, n, x, r, w => if n = m then (if i < r.length then .nx ((r.set j (.val (.list [.str u, x, .bool true]))).set i .un) w else .bad) else hdRun t n x r w
  | .run1 m M :: t, n, x, r, w => if n = m then noExS (M r w) else hdRun t n x r w
  | .run2 m m2 M :: t, n, x, r, w => if n = m ∨ n = m2 then noExS (M r w) else hdRun t n x r w
/-- T: the errors that are told of -/
def sTryS (T : List Str) (j : Nat) (fe : EM) (hs : List Hd) : SM := fun r w =>
  match fe r w with
  | .ok d w1 => .nx (r.set j (.val d)) w1
  | .ex n x w1 => if n ∈ T then hdRun hs n x r w1 else .bad
  | .bad => .bad
def sTryD (T : List Str) (fe : EM) (hs : List Hd) : SM := fun r w =>
  match fe r w with
  | .ok _ w1 => .nx r w1
  | .ex n x w1 => if n ∈ T then hdRun hs n x r w1 else .bad
  | .bad => .bad
/-- which clause takes which error -/
def Takers (K : PySem.W.Frag) (mg : Str → Option Value) (T : List Str) (m : Str) (C : Addr) : Prop := mg m = some (.ref C) ∧ ∀ n ∈ T, ∀ Cn, mg n = some (.ref Cn) → PySem.W.exmOne K (.ref Cn) (.ref C) = some (decide (n = m))
inductive HdOk (K : PySem.W.Frag) (mg : Str → Option Value) (c : Cn) (T : List Str) : List Hd → List Cl → Prop
  | nil : HdOk K mg c T [] []
  | tup {m u : Str} {i j : Nat} {C CS : Addr} {t : List Hd} {l : List Cl} (hij : i ≠ j) (h : Takers K mg T m C) (r : HdOk K mg c T t l) : HdOk K mg c T (.tup m i j u :: t) (⟨fun cls => PySem.W.exmOne K cls (.ref C), some i, tsTup u (fldOf m) C CS i j⟩ :: l)
  | lst {m u : Str} {i j : Nat} {C CS : Addr} {t : List Hd} {l : List Cl} (hij : i ≠ j) (h : Takers K mg T m C) (r : HdOk K mg c T t l) : HdOk K mg c T (.lst m i j u :: t) (⟨fun cls => PySem.W.exmOne K cls (.ref C), some i, tsLst u (fldOf m) C CS i j⟩ :: l)
  | run1 {m : Str} {M : SM} {C : Addr} {t : List Hd} {l : List Cl} (h : Takers K mg T m C) (r : HdOk K mg c T t l) : HdOk K mg c T (.run1 m M :: t) (⟨fun cls => PySem.W.exmOne K cls (.ref C), none, fun _ _ _ => tS ⟨mg, K, c, WF⟩ M⟩ :: l)
  | run2 {m m2 : Str} {M : SM} {C C2 : Addr} {t : List Hd} {l : List Cl} (h : Takers K mg T m C) (h2 : Takers K mg T m2 C2) (r : HdOk K mg c T t l) : HdOk K mg c T (.run2 m m2 M :: t) (⟨fun cls => PySem.W.exmAny K cls [.ref C, .ref C2], none, fun _ _ _ => tS ⟨mg, K, c, WF⟩ M⟩ :: l)
theorem set3 {σ : L2.St} {i j : Nat} {x y z : Option V} (h : i ≠ j) : ((σ.set i x).set j y).set i z = (σ.set j y).set i z := by
  rw [List.set_comm x y h, List.set_set]
theorem Rel.setUn {mg : Str → Option Value} {K : PySem.W.Frag} {c : Cn} {P : List (V × PyData)} {ow : Nat → Option Addr} {r : List SV} {w : DS} {σ : L2.St} {H : Hp} (R : Rel mg K c P ow r w σ H) (i : Nat) : Rel mg K c P (owOff ow i) (r.set i .un) w (σ.set i none) H := R.set i trivial
section
variable {K : PySem.W.Frag} {mg : Str → Option Value} {c : Cn} {W : XW} {T : List Str} {Y : WX} {D : Ends}
theorem hd_run (hW : ∀ ow n x w σ H, W ow n x w σ H → xw mg K c Y ow n x w σ H) {hs : List Hd} {l : List Cl} (hh : HdOk K mg c T hs l) {n : Str} (hn : n ∈ T) {x : PyData} {P : List (V × PyData)} {ow : Nat → Option Addr} {r : List SV} {w : DS} {σ : L2.St} {H : Hp} (R : Rel mg K c P ow r w σ H)
    {Ce d : Addr} {v : V} (hm : mg n = some (.ref Ce)) (hd : H d = some (.xd [(fldOf n, v)])) (dd : Do K H (Ow c.O0 ow) v x) (h : gS ⟨mg, K, c, W⟩ (hdRun hs n x r w) P D) : wCls Y D l (.ref Ce) (some d) σ H := by
  induction hh with
  | nil => exact hW _ _ _ _ _ _ (h ow r σ H R) Ce d v hm hd dd
  | @tup m u i j C CS t l hij tk _ ih =>
    obtain ⟨hC, tk⟩ := tk
    refine ⟨_, tk n hn Ce hm, fun hb a ha => ?_, fun hb => ?_⟩
    · have e : n = m := of_decide_eq_true hb
      subst e
      rw [hC] at hm; cases hm
      unfold hdRun at h
      rw [if_pos rfl] at h
      by_cases hl : i < r.length
      · rw [if_pos hl] at h
        have hi : (σ.set i (some (.ref a)))[i]? = some (some (.ref a)) := by rw [List.getElem?_set_self (by rw [← R.len]; exact hl)]
        refine ⟨_, hi, rfl, rfl, d, _, v, rfl, hd, by simp [List.lookup], _, hi, d, _, rfl, rfl, rfl, hd, ?_⟩
        refine ⟨by show 3 ≤ sizeLine; rw [sizeLine_eq]; decide, fun p hp => ?_⟩
        have R2 := R.new (o := .tup [.str u, v, .bl true]) hp
        have R3 := (R2.setVal j (.tup (SqT.of upd_same) (.inl upd_same) (.cons (.str u) (.cons (dd.keep (M := fun _ => False) (.new hp) fun _ z => z.elim) (.cons (.bl true) .nil))))).setUn i
        have z := h _ _ _ R3
        show D.nx ((((σ.set i (some (.ref a))).set j (some (.ref p)))).set i none) _
        rw [set3 hij]
        exact z
      · rw [if_neg hl] at h; exact h.elim
    · unfold hdRun at h
      rw [if_neg (of_decide_eq_false hb)] at h
      exact ih h
  | @lst m u i j C CS t l hij tk _ ih =>
    obtain ⟨hC, tk⟩ := tk
    refine ⟨_, tk n hn Ce hm, fun hb a ha => ?_, fun hb => ?_⟩
    · have e : n = m := of_decide_eq_true hb
      subst e
      rw [hC] at hm; cases hm
      unfold hdRun at h
      rw [if_pos rfl] at h
      by_cases hl : i < r.length
      · rw [if_pos hl] at h
        have hi : (σ.set i (some (.ref a)))[i]? = some (some (.ref a)) := by rw [List.getElem?_set_self (by rw [← R.len]; exact hl)]
        refine ⟨_, hi, rfl, rfl, d, _, v, rfl, hd, by simp [List.lookup], _, hi, d, _, rfl, rfl, rfl, hd, ?_⟩
        refine ⟨by show 3 ≤ sizeLine; rw [sizeLine_eq]; decide, fun p hp => ?_⟩
        have R2 := R.new (o := .lst [.str u, v, .bl true]) hp
        have R3 := (R2.setVal j (.lst upd_same (R.fresh hp) (.cons (.str u) (.cons (dd.keep (M := fun _ => False) (.new hp) fun _ z => z.elim) (.cons (.bl true) .nil))))).setUn i
        have z := h _ _ _ R3
        show D.nx ((((σ.set i (some (.ref a))).set j (some (.ref p)))).set i none) _
        rw [set3 hij]
        exact z
      · rw [if_neg hl] at h; exact h.elim
    · unfold hdRun at h
      rw [if_neg (of_decide_eq_false hb)] at h
      exact ih h
  | @run1 m M C t l tk _ ih =>
    obtain ⟨hC, tk⟩ := tk
    refine ⟨_, tk n hn Ce hm, fun hb a ha => ?_, fun hb => ?_⟩
    · unfold hdRun at h
      rw [if_pos (of_decide_eq_true hb)] at h
      exact ⟨P, ow, r, w, R, gS_no h⟩
    · unfold hdRun at h
      rw [if_neg (of_decide_eq_false hb)] at h
      exact ih h
  | @run2 m m2 M C C2 t l tk tk2 _ ih =>
    obtain ⟨hC, tk⟩ := tk
    obtain ⟨hC2, tk2⟩ := tk2
    have e : PySem.W.exmAny K (.ref Ce) [.ref C, .ref C2] = some (decide (n = m ∨ n = m2)) := by
      unfold PySem.W.exmAny PySem.W.exmAny PySem.W.exmAny
      rw [tk n hn Ce hm, tk2 n hn Ce hm]
      show some (_ || (_ || false)) = _
      rw [Bool.or_false, Bool.decide_or]
    refine ⟨_, e, fun hb a ha => ?_, fun hb => ?_⟩
    · unfold hdRun at h
      rw [if_pos (of_decide_eq_true hb)] at h
      exact ⟨P, ow, r, w, R, gS_no h⟩
    · unfold hdRun at h
      rw [if_neg (of_decide_eq_false hb)] at h
      exact ih h
theorem red_tryS {fe : EM} {j : Nat} {hs : List Hd} {l : List Cl} (hW : ∀ ow n x w σ H, W ow n x w σ H → xw mg K c Y ow n x w σ H) (hh : HdOk K mg c T hs l) {σ : L2.St} {H : Hp} (h : tS ⟨mg, K, c, W⟩ (sTryS T j fe hs) D σ H) :
    tAsg (tD ⟨mg, K, c, xw mg K c (wCls Y D l)⟩ fe) (gName j) D σ H := by
  obtain ⟨P, ow, r, w, R, h⟩ := h
  refine ⟨P, ow, r, w, R, ?_⟩
  unfold sTryS at h
  cases e : fe r w with
  | ok d w1 =>
    rw [e] at h
    exact fun v H1 k1 R1 p1 => h _ _ _ (R1.setVal j p1)
  | ex n x w1 =>
    rw [e] at h
    by_cases hn : n ∈ T
    · have h2 : gS ⟨mg, K, c, W⟩ (hdRun hs n x r w1) P D := by
        have z : gS ⟨mg, K, c, W⟩ (if n ∈ T then hdRun hs n x r w1 else .bad) P D := h
        rw [if_pos hn] at z; exact z
      exact fun H1 k1 R1 Ce d v hm hd dd => hd_run hW hh hn R1 hm hd dd h2
    · have z : gS ⟨mg, K, c, W⟩ (if n ∈ T then hdRun hs n x r w1 else .bad) P D := h
      rw [if_neg hn] at z; exact z.elim
  | bad => rw [e] at h; exact h
theorem red_tryD {fe : EM} {hs : List Hd} {l : List Cl} (hW : ∀ ow n x w σ H, W ow n x w σ H → xw mg K c Y ow n x w σ H) (hh : HdOk K mg c T hs l) {σ : L2.St} {H : Hp} (h : tS ⟨mg, K, c, W⟩ (sTryD T fe hs) D σ H) :
    tDrop (tD ⟨mg, K, c, xw mg K c (wCls Y D l)⟩ fe) D σ H := by
  obtain ⟨P, ow, r, w, R, h⟩ := h
  refine ⟨P, ow, r, w, R, ?_⟩
  unfold sTryD at h
  cases e : fe r w with
  | ok d w1 =>
    rw [e] at h
    exact fun v H1 k1 R1 p1 => h _ _ _ R1
  | ex n x w1 =>
    rw [e] at h
    by_cases hn : n ∈ T
    · have h2 : gS ⟨mg, K, c, W⟩ (hdRun hs n x r w1) P D := by
        have z : gS ⟨mg, K, c, W⟩ (if n ∈ T then hdRun hs n x r w1 else .bad) P D := h
        rw [if_pos hn] at z; exact z
      exact fun H1 k1 R1 Ce d v hm hd dd => hd_run hW hh hn R1 hm hd dd h2
    · have z : gS ⟨mg, K, c, W⟩ (if n ∈ T then hdRun hs n x r w1 else .bad) P D := h
      rw [if_neg hn] at z; exact z.elim
  | bad => rw [e] at h; exact h
end
/-! ## the statements -/
section
variable {X : Cx} {c : Cn} {W : XW} {Y : WX} {T : List Str} {e : Expr} {fe : EM} {hs : List Hd} {l : List Cl} {h0 : ExceptHandler} {hds : List ExceptHandler} {pos pos1 : Pos} {x : Str} {px : Pos} {j : Nat}
theorem stTryS (hst : X.stack = X.env :: X.outer) (hfl : X.env.frame = some X.env.locals) (tk : Takes X Y) (hW : ∀ ow n x w σ H, W ow n x w σ H → xw X.mg X.K c Y ow n x w σ H) (hN : X.N.Nodup) (hj : X.N[j]? = some x) (hx : Loc X.env.scope x)
    (he : ∀ (V : WX) (pn : List (Addr × Obj)) (xe : Value → Shared → Prop), Takes (X.tr pn xe) V → PE (X.tr pn xe) e (tD (dc (X.tr pn xe) c (xw X.mg X.K c V)) fe)) (hh : HdOk X.K X.mg c T hs l) (hc : ClsOk X (h0 :: hds) l)
    (hsw : swapsWith e (some (.Name x px)) pos1.line X.env = pure false := by rfl) (hf : X.fn x = true ∨ X.env.scope.names.lookup x = some .local := by first | exact .inl rfl | exact .inr rfl) :
    PS X (.Try [.Assign [.Name x px] e pos1] (h0 :: hds) [] [] pos) (tS (dc X c W) (sTryS T j fe hs)) :=
  PS.imp (ps_try_cl (tb := fun V => tAsg (tD (dc X c (xw X.mg X.K c V)) fe) (gName j)) hst hfl tk (fun V pn xe tk2 _ => pss_one (ps_set (X := X.tr pn xe) hN hj hx (he V pn xe tk2) hsw hf)) hc) fun D σ H h => red_tryS hW hh h
theorem stTryD (hst : X.stack = X.env :: X.outer) (hfl : X.env.frame = some X.env.locals) (tk : Takes X Y) (hW : ∀ ow n x w σ H, W ow n x w σ H → xw X.mg X.K c Y ow n x w σ H)
    (he : ∀ (V : WX) (pn : List (Addr × Obj)) (xe : Value → Shared → Prop), Takes (X.tr pn xe) V → PE (X.tr pn xe) e (tD (dc (X.tr pn xe) c (xw X.mg X.K c V)) fe)) (hh : HdOk X.K X.mg c T hs l) (hc : ClsOk X (h0 :: hds) l)
    (hsw : swapsWith e none pos1.line X.env = pure false := by rfl) :
    PS X (.Try [.Expr e pos1] (h0 :: hds) [] [] pos) (tS (dc X c W) (sTryD T fe hs)) :=
  PS.imp (ps_try_cl (tb := fun V => tDrop (tD (dc X c (xw X.mg X.K c V)) fe)) hst hfl tk (fun V pn xe tk2 _ => pss_one (ps_expr (X := X.tr pn xe) (he V pn xe tk2) hsw)) hc) fun D σ H h => red_tryD hW hh h
/-- where nothing leaves -/
theorem wF {mg : Str → Option Value} {K : PySem.W.Frag} {Y : WX} : ∀ ow n x w σ H, WF ow n x w σ H → xw mg K c Y ow n x w σ H := fun _ _ _ _ _ _ h => h.elim
theorem wId {mg : Str → Option Value} {K : PySem.W.Frag} {Y : WX} : ∀ ow n x w σ H, xw mg K c Y ow n x w σ H → xw mg K c Y ow n x w σ H := fun _ _ _ _ _ _ h => h
end
end DL
namespace DL
open L2 PySem PySem.Spec PyProof.Rows
/-! ## from what the written part says -/
theorem exm_mk {K : PySem.W.Frag} {C : Addr} {t : Value} {b : Bool} (h1 : PySem.W.subIn K (.ref C) (.type "BaseException") = some true) (h2 : PySem.W.isClsIn K C = true) (h3 : PySem.W.typeIn K (.ref C) = some (.type "type")) (h4 : PySem.W.subIn K t (.ref C) = some b) : PySem.W.exmOne K t (.ref C) = some b := by
  have e1 : (PySem.W.subIn K (.ref C) (.type "BaseException") == some true) = true := by rw [h1]; rfl
  have e2 : ((PySem.W.clsIn K C).isSome && PySem.W.typeIn K (.ref C) == some (.type "type")) = true := by
    have z : (PySem.W.clsIn K C).isSome = true := h2
    rw [z, h3]; rfl
  unfold PySem.W.exmOne PySem.W.kitCls
  rw [if_pos e1]
  exact (if_pos e2).trans h4
theorem kit_mk {K : PySem.W.Frag} {C : Addr} {t : Value} (h2 : PySem.W.isClsIn K C = true) (h3 : PySem.W.typeIn K (.ref C) = some (.type "type")) (h4 : PySem.W.subIn K t (.ref C) = some true) : PySem.W.kitOne K t (.ref C) = some true := by
  have e2 : ((PySem.W.clsIn K C).isSome && PySem.W.typeIn K (.ref C) == some (.type "type")) = true := by
    have z : (PySem.W.clsIn K C).isSome = true := h2
    rw [z, h3]; rfl
  unfold PySem.W.kitOne PySem.W.kitCls
  by_cases h : (t == Value.ref C) = true
  · rw [if_pos h]
  · rw [if_neg h]
    exact (if_pos e2).trans h4
theorem takers_mk {K : PySem.W.Frag} {mg : Str → Option Value} {T : List Str} {m : Str} {C : Addr} (g : mg m = some (.ref C)) (h1 : PySem.W.subIn K (.ref C) (.type "BaseException") = some true) (h2 : PySem.W.isClsIn K C = true) (h3 : PySem.W.typeIn K (.ref C) = some (.type "type"))
    (l : List (Str × Addr)) (hl : T = l.map Prod.fst) (hg : ∀ p ∈ l, mg p.1 = some (.ref p.2)) (hs : ∀ p ∈ l, PySem.W.subIn K (.ref p.2) (.ref C) = some (decide (p.1 = m))) : Takers K mg T m C := by
  refine ⟨g, fun n hn Cn hc => ?_⟩
  rw [hl] at hn
  obtain ⟨p, hp, rfl⟩ := List.mem_map.mp hn
  have e := hg p hp
  rw [hc] at e
  cases e
  exact exm_mk h1 h2 h3 (hs p hp)
end DL

namespace DL
open L2 PySem PySem.Spec PyProof.Rows
/-! ## x, y = [], e with both stored at once; e has no empty list and no dict in it -/
mutual
def noNil : PyData → Bool
  | .list ds => !ds.isEmpty && noNils ds
  | .tuple ds => noNils ds
  | .dict _ => false
  | _ => true
def noNils : List PyData → Bool
  | [] => true
  | d :: ds => noNil d && noNils ds
end
mutual
theorem Do.more {K : PySem.W.Frag} {H : Hp} {O : Addr → Prop} {p : Addr} (hp : H p = some (.lst [])) : ∀ {v : V} {d : PyData}, Do K H O v d → noNil d = true → Do K H (fun b => O b ∨ b = p) v d
  | _, _, .non, _ => .non
  | _, _, .bl b, _ => .bl b
  | _, _, .int i, _ => .int i
  | _, _, .str x, _ => .str x
  | _, _, .lst (ds := ds) r n a, h => by
    have h' : (!ds.isEmpty) = true ∧ noNils ds = true := by simpa [noNil] using h
    refine .lst r (fun z => z.elim n fun e => ?_) (DoAll.more hp a h'.2)
    subst e
    rw [hp] at r
    cases r
    cases a
    simp at h'
  | _, _, .tup r z a, h => .tup r z (DoAll.more hp a (by simpa [noNil] using h))
  | _, _, .dcK _ _ _ _ _, h => by simp [noNil] at h
  | _, _, .dcT _ _ _ _ _, h => by simp [noNil] at h
theorem DoAll.more {K : PySem.W.Frag} {H : Hp} {O : Addr → Prop} {p : Addr} (hp : H p = some (.lst [])) : ∀ {vs : List V} {ds : List PyData}, DoAll K H O vs ds → noNils ds = true → DoAll K H (fun b => O b ∨ b = p) vs ds
  | _, _, .nil, _ => .nil
  | _, _, .cons r t, h => by
    have h' := Bool.and_eq_true_iff.mp (show (_ && _) = true from h)
    exact .cons (Do.more hp r h'.1) (DoAll.more hp t h'.2)
end
def sOwnPar (i j : Nat) (g : EM) : SM := fun r w => (g r w).bindS fun e w1 => if noNil e = true then .nx ((r.set i (.own [])).set j (.val e)) w1 else .bad
theorem red_ownPar {C : Dc} {D : Ends} {i j : Nat} {g : EM} {σ : L2.St} {H : Hp} (h : tS C (sOwnPar i j g) D σ H) : tPar i j (tCons (tLst tNil) (tCons (tD C g) tNil)) D σ H := by
  obtain ⟨P, ow, r, w, R, h⟩ := h
  refine ⟨Nat.zero_le _, fun p hp => ?_⟩
  have Rg := R.setOwn (ds := []) (xs := []) i hp .nil
  have R1 := R.new (o := .lst []) hp
  refine ⟨P, ow, r, w, R1, gE.bindS h fun e w1 v H1 _ k1 R2 p1 h1 => ?_⟩
  by_cases hn : noNil e = true
  · rw [if_pos hn] at h1
    have Rg2 := Rg.after k1 R2.st
    have nsa : ¬ SAd C.c.sa p := fun z => R.fresh hp (.inl (R.ok.sub p z))
    have hp1 : H1 p = some (.lst []) := k1.same p _ upd_same nsa
    have q := (Do.more hp1 p1 hn).weak (O' := Ow C.c.O0 (owOn ow i p)) fun b z => by
      rcases z with z | ⟨t, z⟩
      · exact .inl (.inl z)
      · unfold owOn at z
        by_cases c : t = i
        · rw [if_pos c] at z; exact .inr (Option.some.inj z).symm
        · rw [if_neg c] at z; exact .inl (.inr ⟨t, z⟩)
    exact ⟨_, _, rfl, h1 _ _ _ (Rg2.setVal j q)⟩
  · rw [if_neg hn] at h1; exact h1.elim
theorem stOwnPar {X : Cx} {c : Cn} {W : XW} {i j : Nat} {x y : Str} {b : Expr} {g : EM} {px py pl pt pos : Pos} {kt k2 pt2} (hc : X.calm = true) (hN : X.N.Nodup) (hi : X.N[i]? = some x) (hj : X.N[j]? = some y) (hij : i ≠ j)
    (hx : X.env.scope.names.lookup x = some .local) (hy : X.env.scope.names.lookup y = some .local) (hb : PE X b (tD (dc X c W) g))
    (hw : swappedStores [.Tuple [.Name x px, .Name y py] kt pt] (.Tuple [.List [] pl, b] k2 pt2) X.env = pure (some [x, y]))
    (hs : swapsWithSole [.Tuple [.Name x px, .Name y py] kt pt] (.Tuple [.List [] pl, b] k2 pt2) pos.line X.env = pure false := by rfl)
    (h1 : starEach [.List [] pl, b] X.env = (false, eval (.List [] pl) X.env) :: starEach [b] X.env := by rfl) (h2 : starEach [b] X.env = (false, eval b X.env) :: starEach [] X.env := by rfl) :
    PS X (.Assign [.Tuple [.Name x px, .Name y py] kt pt] (.Tuple [.List [] pl, b] k2 pt2) pos) (tS (dc X c W) (sOwnPar i j g)) :=
  PS.imp (ps_par hc hN hi hj hij hx hy (pa_cons (pe_lst pa_nil) (pa_cons hb pa_nil h2) h1) hw hs) fun _ _ _ => red_ownPar
end DL

namespace DL
open L2 PySem PySem.Spec PyProof.Rows
/-! ## three names at once -/
def sPar3 (i j l : Nat) (f g h : EM) : SM := fun r w => (f r w).bindS fun d w1 => (g r w1).bindS fun e w2 => (h r w2).bindS fun z w3 => .nx (((r.set i (.val d)).set j (.val e)).set l (.val z)) w3
theorem red_par3 {C : Dc} {D : Ends} {i j l : Nat} {f g h : EM} {σ : L2.St} {H : Hp} (q : tS C (sPar3 i j l f g h) D σ H) : tPar3 i j l (tCons (tD C f) (tCons (tD C g) (tCons (tD C h) tNil))) D σ H := by
  obtain ⟨P, ow, r, w, R, q⟩ := q
  refine ⟨P, ow, r, w, R, gE.bindS q fun d w1 v H1 _ k1 R1 p1 q1 => ⟨P, ow, r, w1, R1, gE.bindS q1 fun e w2 u H2 _ k2 R2 p2 q2 => ⟨P, ow, r, w2, R2, gE.bindS q2 fun z w3 t H3 _ k3 R3 p3 q3 => ⟨v, u, t, rfl, ?_⟩⟩⟩⟩
  have p1' : Do C.K H3 (Ow C.c.O0 ow) v d := Do.keep k3 R2.subO (Do.keep k2 R1.subO p1)
  have p2' : Do C.K H3 (Ow C.c.O0 ow) u e := Do.keep k3 R2.subO p2
  exact q3 _ _ _ (((R3.setVal i p1').setVal j (p2'.weak owOff_sub)).setVal l ((p3.weak owOff_sub).weak owOff_sub))
theorem stPar3 {X : Cx} {c : Cn} {W : XW} {i j l : Nat} {x y z : Str} {a b e : Expr} {f g h : EM} {px py pz pt pos : Pos} {kt k2 pt2} (hc : X.calm = true) (hN : X.N.Nodup) (hi : X.N[i]? = some x) (hj : X.N[j]? = some y) (hl : X.N[l]? = some z) (hij : i ≠ j) (hil : i ≠ l) (hjl : j ≠ l)
    (hx : X.env.scope.names.lookup x = some .local) (hy : X.env.scope.names.lookup y = some .local) (hz : X.env.scope.names.lookup z = some .local) (ha : PE X a (tD (dc X c W) f)) (hb : PE X b (tD (dc X c W) g)) (he : PE X e (tD (dc X c W) h))
    (hw : swappedStores [.Tuple [.Name x px, .Name y py, .Name z pz] kt pt] (.Tuple [a, b, e] k2 pt2) X.env = pure (some [x, y, z]))
    (hs : swapsWithSole [.Tuple [.Name x px, .Name y py, .Name z pz] kt pt] (.Tuple [a, b, e] k2 pt2) pos.line X.env = pure false := by rfl)
    (h1 : starEach [a, b, e] X.env = (false, eval a X.env) :: starEach [b, e] X.env := by rfl) (h2 : starEach [b, e] X.env = (false, eval b X.env) :: starEach [e] X.env := by rfl) (h3 : starEach [e] X.env = (false, eval e X.env) :: starEach [] X.env := by rfl) :
    PS X (.Assign [.Tuple [.Name x px, .Name y py, .Name z pz] kt pt] (.Tuple [a, b, e] k2 pt2) pos) (tS (dc X c W) (sPar3 i j l f g h)) :=
  PS.imp (ps_par3 hc hN hi hj hl hij hil hjl hx hy hz (pa_cons ha (pa_cons hb (pa_cons he pa_nil h3) h2) h1) hw hs) fun _ _ _ => red_par3
end DL

namespace DL
open L2 PySem PySem.Spec PyProof.Rows
/-! ## set(l) of a list of ints -/
abbrev nS (w : World) : Obj := { cls := .type "set", dict := none, data := .set #[] 0 (.fresh 0 0 (!w.params.followText "set-order")) }
section
variable {P : Program} {w : World} {A : Around} {E : Value → Shared → Prop} {s : Shared}
theorem nS_at (h : Heap) : (h.push (nS w)).get? h.objs.size = some (nS w) := Heap.get?_push_size _ rfl
set_option maxHeartbeats 3200000 in
theorem setOfList {l : Addr} {items : Array Value} (ns : List Int) {Q : Value → Shared → Prop} (noH : A.handled = none) (isL : s.heap.IsList l items) (hin : IntsAre items.toList ns) (few : ns.length + 1 < scanBound)
    (fin : ∀ (h2 : Heap) (tk n : Nat), SetR w h2 s.heap.objs.size (fun j => decide (j ∈ ns)) n → n ≤ ns.length → (∀ b o, s.heap.get? b = some o → h2.get? b = some o) → Q (.ref s.heap.objs.size) { s with heap := h2, toks := tk }) :
    wpAny (model P w) A (call (.type "set") [.ref l]) Q E s := by
  have size : items.size = ns.length := by
    rw [← IntsAre.length hin, Array.length_toList]
  obtain ⟨c0, t0, hmro⟩ := F.called_set.mro
  have q1 := F.called_set.made
  have q2 := F.called_set.sub
  refine wpAny_call (codeAny_of_tree ?_)
  show wpAny _ _ (callAny (.type "set") _) _ _ s
  refine wpAny_pure ⟨Code.quiet_builtin _ (by decide +kernel), codeAny_builtin F.entry_type_call ?_⟩
  rw [Around.under_plain (weight_type_call_type "set" [Value.ref l] []) rfl]
  have q3 := F.called_set.notType
  have q4 := F.called_set.canCreate
  have q5 := F.typeCall_set_1 (Value.ref l)
  repeat (any_goals (first | assumption | wp_step))
  refine codeAny_mono (code_set_led1 (Value.ref l) (E := E) (Q₁ := fun r s1 => r = .ref s.heap.objs.size ∧ s1 = { s with heap := s.heap.push (nS w) }) ⟨rfl, rfl⟩) fun r s1 hr => ?_
  cases r with
  | error e => exact hr
  | ok fl =>
    cases fl with
    | ret r1 =>
      obtain ⟨rfl, rfl⟩ := hr
      have new := nS_at (w := w) s.heap
      have ty : Shared.TypeIs { s with heap := s.heap.push (nS w) } (.ref s.heap.objs.size) "set" := ⟨_, new, rfl⟩
      have q6 := F.called_set.init.lookup
      have q7 := F.called_set.init.bind (.ref s.heap.objs.size)
      repeat (any_goals (first | assumption | wp_step))
      refine codeAny_mono (codeAny_call_builtin (R := wants (fun r2 s2 => r2 = .none ∧ ∃ h2 tk n, s2 = { s with heap := h2, toks := tk } ∧ SetR w h2 s.heap.objs.size (fun j => decide (j ∈ ns)) n ∧ n ≤ ns.length ∧ (∀ b o, s.heap.get? b = some o → h2.get? b = some o)) E) F.called_set.init.plain F.entry_set_init (check_set_init_1 ty ?_)) fun r2 s2 hr2 => ?_
      · obtain ⟨⟨ocls, odict, odata, oslots⟩, at1, c1, n1, d1⟩ := isL
        simp only at c1 d1
        subst c1; subst d1
        have at2 : (s.heap.push (nS w)).get? l = some { cls := .type "list", dict := odict, data := .seq items n1, slots := oslots } := Heap.get?_push_of_some _ at1
        have q8 := F.sub_list_set
        have q9 := F.sub_list_frozenset
        have qa : (Value.type "list" == Value.type "dict") = false := by decide
        have isL2 : (s.heap.push (nS w)).IsList l items := ⟨_, at2, rfl, n1, rfl⟩
        unfold Builtin.«set.__init__» noKeywords Builtin.Frozenset.updateFrom
        generalize hit : pyIter = it
        wp_walk
        subst hit
        refine wpAny_pyIter_list isL2 (wpAny_bind (wpAny_runValue ?_))
        have lt := Heap.lt_size at1
        have noH3 : A.in1.in1.in1.handled = none := by simp [noH]
        have sz : (s.heap.push (nS w)).objs.size = s.heap.objs.size + 1 := Heap.size_push ..
        have ne1 : l ≠ (s.heap.push (nS w)).objs.size := by rw [sz]; exact Nat.ne_of_lt (Nat.lt_succ_of_lt lt)
        have nf : s.heap.objs.size ∉ [(s.heap.push (nS w)).objs.size, l] := by
          rw [sz]
          simp only [List.mem_cons, List.not_mem_nil, or_false, not_or]
          exact ⟨Nat.ne_of_lt (Nat.lt_succ_self _), Nat.ne_of_gt lt⟩
        have vals : ∀ (i : Nat) (v : Value), items[i]? = some v → ∃ k t, ns[i]? = some k ∧ v = .int k t := fun i v hv => by
          have hi : i < ns.length := size ▸ (Array.getElem?_eq_some_iff.mp hv).1
          obtain ⟨t, e⟩ := PyProof.Rows.IntsAre.int_at hin i v (Array.getElem?_toList ▸ hv)
          exact ⟨ns[i], t, List.getElem?_eq_getElem hi, by rw [e, List.getD_eq_getElem?_getD, List.getElem?_eq_getElem hi] <;> rfl⟩
        refine set_update_ints ((Walks.list noH3 _ l ne1 items).toS) s.heap.objs.size nf ns size few vals (items.size - 0) 0 _ (by omega) (Nat.zero_le _) ⟨⟨_, Heap.get?_push_size _ rfl, rfl, rfl⟩, (isL2.push _)⟩ ?_ ?_
        · exact ⟨0, Nat.le_refl 0, setR_new_at (Heap.get?_push_of_some _ new)⟩
        · intro s3 n3 mv le3 R3
          obtain ⟨h3, g3, d3, tk3, os3⟩ := s3
          obtain rfl : g3 = s.gens := mv.gens
          obtain rfl : d3 = s.drawn := mv.drawn
          obtain rfl : os3 = s.os := mv.os
          show wpAny _ _ _ _ _ _
          refine wpAny_pure ?_
          show wpAny _ _ (ret Value.none) _ _ _
          refine wpAny_pure ⟨rfl, h3, tk3, n3, rfl, R3, size ▸ le3, fun b o e => ?_⟩
          have b0 := Heap.lt_size e
          refine mv.heap b o ?_ (Heap.get?_push_of_some _ (Heap.get?_push_of_some _ e))
          simp only [List.mem_cons, List.not_mem_nil, or_false, not_or]
          exact ⟨Nat.ne_of_lt b0, by rw [sz]; exact Nat.ne_of_lt (Nat.lt_succ_of_lt b0)⟩
      · cases r2 with
        | error e => exact hr2
        | ok f2 =>
          cases f2 with
          | ret r3 =>
            obtain ⟨rfl, h2, tk, n, rfl, R2, le2, k2⟩ := hr2
            repeat (any_goals (first | assumption | wp_step))
            exact fin _ _ _ R2 le2 k2
          | _ => exact hr2.elim
    | _ => exact hr.elim
end
/-! ## set(x) of a tuple or a list of ints -/
section
variable {X : Cx}
def rSetA (K : PySem.W.Frag) (w : World) : List V → Hp → VK → Prop := fun xs H Q => ∃ (l : Addr) (ns : List Int), xs = [.ref l] ∧ (SqT K H l (ns.map V.int) ∨ SqL K H l (ns.map V.int)) ∧ ns.length < 1000 ∧
  ∀ p k, H p = none → k < 1000 → Cnt (fun j => decide (j ∈ ns)) k → Q (.ref p) (upd H p (SetO w p (fun j => decide (j ∈ ns)) k))
theorem c_setA (hc : X.calm = true) : CallR X (.type "set") (rSetA X.K X.w) := by
  intro pins s σ H xs us Q I r h
  obtain ⟨l, ns, rfl, hq, hl, q⟩ := h
  rcases hq with hq | hq
  · exact c_setI hc pins s σ H _ us Q I r ⟨l, ns, rfl, hq, hl, q⟩
  · cases r with
    | cons r rr =>
      cases rr
      cases r
      obtain ⟨its, rv, pt, _⟩ := I.list hq
      refine setOfList ns (I.ok.hd hc) pt.isList (ints_of_vals rv) (by unfold scanBound; omega) fun h2 tk n R2 le2 k2 => ?_
      exact ⟨.ref _, upd H s.heap.objs.size (SetO X.w s.heap.objs.size (fun j => decide (j ∈ ns)) n), I.laid (t' := tk) k2 (Nat.le_refl _) (setO_new R2), rfl, q _ n (I.hok.fresh (Nat.le_refl _)) (by omega) fun ms h1 h2 => SetR.count R2 h1 h2⟩
end
end DL

namespace DL
open L2 PySem PySem.Spec PyProof.Rows
/-! ## len(set(x)), sorted(set(x)), x a tuple or a list of ints -/
def intsOf : PyData → Option (List Int)
  | .tuple ds => toInts ds
  | .list ds => toInts ds
  | _ => none
def lenSetG (d : PyData) : Option PyData := (intsOf d).bind fun ns => if ns.length < 1000 then some (.int ((uniq ns).length : Nat)) else none
def sortSetG (d : PyData) : Option PyData := (intsOf d).bind fun ns => if ns.length < 1000 ∧ (uniq ns).length < 64 then some (.list ((isort (uniq ns)).map .int)) else none
theorem all_ints {K : PySem.W.Frag} {H : Hp} {O : Addr → Prop} : ∀ {xs : List V} {ds : List PyData} {ns : List Int}, DoAll K H O xs ds → toInts ds = some ns → xs = ns.map V.int
  | _, [], ns, .nil, e => by cases e; rfl
  | _, d :: ds, ns, .cons h t, e => by
    cases d with
    | int i =>
      cases h
      cases e2 : toInts ds with
      | none =>
        have z : (toInts ds).map (i :: ·) = some ns := e
        rw [e2] at z; cases z
      | some ms =>
        have z : (toInts ds).map (i :: ·) = some ns := e
        rw [e2] at z; cases z
        rw [all_ints t e2]; rfl
    | _ => cases e
theorem ref_any {K : PySem.W.Frag} {H : Hp} {O : Addr → Prop} {u : V} {d : PyData} {ns : List Int} (p : Do K H O u d) (e : intsOf d = some ns) : ∃ l, u = .ref l ∧ (SqT K H l (ns.map V.int) ∨ SqL K H l (ns.map V.int)) := by
  cases p with
  | lst h n a =>
    have z := all_ints a e
    subst z
    exact ⟨_, rfl, .inr (SqL.of h)⟩
  | tup q z a =>
    have z := all_ints a e
    subst z
    exact ⟨_, rfl, .inl q⟩
  | _ => cases e
section
variable {C : Dc} {σ : L2.St} {H : Hp} {Q : VK}
theorem red_lenSetG {w0 : World} {fa : EM} (h : tD C (eUn lenSetG fa) σ H Q) : tCB (rLenS w0) (tCons (tCB (rSetA C.K w0) (tCons (tD C fa) tNil)) tNil) σ H Q := by
  obtain ⟨P, ow, r, w, R, h⟩ := h
  refine ⟨P, ow, r, w, R, gE.bind h fun d w1 u H1 _ k1 R1 p1 h1 => ?_⟩
  unfold lenSetG at h1
  cases e1 : intsOf d with
  | none => rw [e1] at h1; exact h1.elim
  | some ns =>
    rw [e1, Option.bind_some] at h1
    by_cases hc : ns.length < 1000
    · rw [if_pos hc] at h1
      obtain ⟨la, rfl, q1⟩ := ref_any p1 e1
      refine ⟨la, ns, rfl, q1, hc, fun p k hp hk hcn => ?_⟩
      have ek : k = (uniq ns).length := hcn _ (uniq_nodup ns) fun j => by rw [decide_eq_true_iff, uniq_mem]
      subst ek
      have st := step_same R1 (same_new (o := SetO w0 p (fun j => decide (j ∈ ns)) (uniq ns).length) hp)
      exact ⟨p, _, _, rfl, upd_same, by omega, h1.ret st.1 st.2 (.int _)⟩
    · rw [if_neg hc] at h1; exact h1.elim
theorem red_sortSetG {w0 : World} {fa : EM} (h : tD C (eUn sortSetG fa) σ H Q) : tCB (rSortedSet w0) (tCons (tCB (rSetA C.K w0) (tCons (tD C fa) tNil)) tNil) σ H Q := by
  obtain ⟨P, ow, r, w, R, h⟩ := h
  refine ⟨P, ow, r, w, R, gE.bind h fun d w1 u H1 _ k1 R1 p1 h1 => ?_⟩
  unfold sortSetG at h1
  cases e1 : intsOf d with
  | none => rw [e1] at h1; exact h1.elim
  | some ns =>
    rw [e1, Option.bind_some] at h1
    by_cases hc : ns.length < 1000 ∧ (uniq ns).length < 64
    · rw [if_pos hc] at h1
      obtain ⟨la, rfl, q1⟩ := ref_any p1 e1
      refine ⟨la, ns, rfl, q1, hc.1, fun p k hp hk hcn => ?_⟩
      have ek : k = (uniq ns).length := hcn _ (uniq_nodup ns) fun j => by rw [decide_eq_true_iff, uniq_mem]
      subst ek
      have st := step_same R1 (same_new (o := SetO w0 p (fun j => decide (j ∈ ns)) (uniq ns).length) hp)
      refine ⟨p, _, _, rfl, upd_same, hc.2, fun ms a hs hm hl ha => ?_⟩
      have em : ms = isort (uniq ns) := isort_eq (uniq_nodup ns) hs fun k => by rw [hm k, decide_eq_true_iff, uniq_mem]
      subst em
      have st2 := step_same (C := C) (P := P) (ow := ow) (r := r) (w := w1) (σ := σ) st.2 (same_new (o := .lst ((isort (uniq ns)).map V.int)) ha)
      exact h1.ret (st.1.trans st2.1) st2.2 (.lst upd_same (st.2.fresh ha) (DoAll.ints _))
    · rw [if_neg hc] at h1; exact h1.elim
end
section
variable {X : Cx} {c : Cn} {W : XW} {a : Expr} {fa : EM} {pos p1 p2 p3 : Pos}
theorem dLenSetG {xl xs : Str} (hc : X.calm = true) (hg : Gl X xl) (hm : X.mg xl = none) (hb : bootBuiltins xl = some (.builtin "len")) (hn : xl ≠ "__name__") (hdb : (xl == ("__debug__" : Str)) = false) (hg2 : Gl X xs) (hm2 : X.mg xs = none) (hb2 : bootBuiltins xs = some (.type "set")) (hn2 : xs ≠ "__name__") (hdb2 : (xs == ("__debug__" : Str)) = false)
    (ha : PE X a (tD (dc X c W) fa)) (sa : starEach [a] X.env = (false, eval a X.env) :: starEach [] X.env := by rfl) (se : starEach [.Call (.Name xs p2) [a] [] p3] X.env = (false, eval (.Call (.Name xs p2) [a] [] p3) X.env) :: starEach [] X.env := by rfl)
    (l1 : (backTo p3 (starEach [] X.env)).any (·.1) = false := by rfl) (l2 : (backTo pos (starEach [] X.env)).any (·.1) = false := by rfl) :
    PE X (.Call (.Name xl p1) [.Call (.Name xs p2) [a] [] p3] [] pos) (tD (dc X c W) (eUn lenSetG fa)) :=
  PE.imp (pe_callB c_lenS hg hm hb (pa_cons (pe_callTy (c_setA hc) hg2 hm2 hb2 (pa_cons ha pa_nil sa) hn2 hdb2 sa l1) pa_nil se) hn hdb se l2) fun _ _ _ => red_lenSetG
theorem dSortSetG {xl xs : Str} (hc : X.calm = true) (hg : Gl X xl) (hm : X.mg xl = none) (hb : bootBuiltins xl = some (.builtin "sorted")) (hn : xl ≠ "__name__") (hdb : (xl == ("__debug__" : Str)) = false) (hg2 : Gl X xs) (hm2 : X.mg xs = none) (hb2 : bootBuiltins xs = some (.type "set")) (hn2 : xs ≠ "__name__") (hdb2 : (xs == ("__debug__" : Str)) = false)
    (ha : PE X a (tD (dc X c W) fa)) (sa : starEach [a] X.env = (false, eval a X.env) :: starEach [] X.env := by rfl) (se : starEach [.Call (.Name xs p2) [a] [] p3] X.env = (false, eval (.Call (.Name xs p2) [a] [] p3) X.env) :: starEach [] X.env := by rfl)
    (l1 : (backTo p3 (starEach [] X.env)).any (·.1) = false := by rfl) (l2 : (backTo pos (starEach [] X.env)).any (·.1) = false := by rfl) :
    PE X (.Call (.Name xl p1) [.Call (.Name xs p2) [a] [] p3] [] pos) (tD (dc X c W) (eUn sortSetG fa)) :=
  PE.imp (pe_callB (cr_sortedSet hc) hg hm hb (pa_cons (pe_callTy (c_setA hc) hg2 hm2 hb2 (pa_cons ha pa_nil sa) hn2 hdb2 sa l1) pa_nil se) hn hdb se l2) fun _ _ _ => red_sortSetG
end
end DL

set_option maxHeartbeats 1000000
namespace DL
open PySem PySem.W PyProof L2
/-! a tuple times one: the very tuple -/
theorem tuple_mul1 (l : Addr) (items : Array Value) (n : Nat) (dd : Option Addr) (sl : Array (Option Value)) (u : Tok) :
  Meets (Builtin.«tuple.__mul__» { pos := [Value.ref l, Value.int 1 u] }) fun _ R s =>
   s.heap.get? l = some { cls := Value.type "tuple", dict := dd, data := Data.seq items n, slots := sl } ∧ R (Except.ok (Flow.ret (Value.ref l))) s :=
  Meets.of_wp fun prog w A R s h => by
    obtain ⟨hp, gg, dq, tk, os⟩ := s
    obtain ⟨hl, h⟩ := h
    replace hl : hp.get? l = some { cls := Value.type "tuple", dict := dd, data := Data.seq items n, slots := sl } := hl
    unfold Builtin.«tuple.__mul__»
    refine (wpAny_ite_false (a := ret (Value.ref l)) (by exact Eq.refl (decide ((!({ pos := [Value.ref l, Value.int 1 u] } : Args).kw.isEmpty) = true))) ?_)
    refine wpAny_bind ?_
    refine wpAny_bind ?_
    refine wpAny_pure ?_
    refine wpAny_pure ?_
    refine wpAny_ite_false (by rfl) ?_
    refine wpAny_bind ?_
    refine wpAny_bind ?_
    refine wpAny_bind ?_
    refine wpAny_load' hl ?_
    refine wpAny_pure ?_
    refine wpAny_pure ?_
    refine wpAny_ite_true (by simp) ?_
    refine wpAny_bind ?_
    refine wpAny_bind ?_
    refine wpAny_bind ?_
    refine wpAny_load' hl ?_
    refine wpAny_pure ?_
    refine wpAny_pure ?_
    refine wpAny_ite_true (by rfl) ?_
    refine wpAny_bind (wpAny_rule ?_)
    refine wpAny_pure ?_
    exact ⟨_, rfl, h⟩
section
variable {X : Cx}
theorem op_repT1 : OpR X (binaryOp .Mult) (fun x y H Q => ∃ l xs, x = .ref l ∧ y = .int 1 ∧ SqT X.K H l xs ∧ Q (.ref l) H) := by
  rintro pns s σ H x y v u Q I rx ry ⟨l, xs, rfl, rfl, hT, q⟩
  cases rx
  obtain ⟨t, rfl⟩ := ry
  obtain ⟨us1, r, ⟨⟨cls, dd, data, sl⟩, ho, hc, n, hd⟩, hs⟩ := Inv.tuple I hT
  replace hc : cls = _ := hc
  replace hd : data = _ := hd
  subst hc
  subst hd
  exact wpAny_binaryOp_repeat_ref (by decide) ⟨_, ho, rfl⟩ (fun s' => typeIs_int s' 1 t) noFill_tuple_mul F.fills_int_mul F.slot_int_rmul repeat_tuple F.slot_int_index.lookup (call_meets F.slot_int_rmul (typeIs_int s 1 t) F.entry_int_rmul (F.args_int_rmul_2 (.int 1 t) (.ref l)) (int_rmul_tuple 1 t l us1.toArray n dd sl) ⟨ho, rfl, ⟨_, ho, rfl⟩, call_meets F.slot_tuple_mul ⟨_, ho, rfl⟩ F.entry_tuple_mul (F.args_tuple_mul_2 (.ref l) (.int 1 t)) (tuple_mul1 l us1.toArray n dd sl t) ⟨ho, .ref l, H, I, rfl, q⟩⟩)
def mulG (d e : PyData) : Option PyData :=
  match d, e with
  | .tuple a, .int k => if k = 1 then some (.tuple a) else mulD (.tuple a) (.int k)
  | d, e => mulD d e
theorem o_mulG : OpR X (binaryOp .Mult) (rD2 X.K mulG) := by
  refine two_ints (OpR.or o_mul op_repT1) fun x y H Q d e z O dom hd he yg q => ?_
  by_cases yK : ∃ a, d = .tuple a ∧ e = .int 1
  · obtain ⟨a, rfl, rfl⟩ := yK
    have yz : z = .tuple a := by
      have : some (PyData.tuple a) = some z := yg
      exact (Option.some.inj this).symm
    subst yz
    cases he
    cases hd with
    | tup hx hn ha => exact .inr ⟨_, _, rfl, rfl, hx, q _ _ (Same.refl _) (.tup hx hn ha)⟩
  · have hg2 : mulD d e = some z := by
      rw [← yg]
      unfold mulG
      split
      · rename_i a k
        split
        · rename_i h1
          subst h1
          exact absurd ⟨a, rfl, rfl⟩ yK
        · rfl
      · rfl
    exact .inl ⟨O, d, e, z, dom, hd, he, hg2, q⟩
end
end DL

namespace DL
open PySem PySem.W PySem.Spec PyProof PyProof.Rows L2
/-! ## zip(tuple, list) and zip(list, list) -/
@[reducible] def zM1 (h : Heap) (l1 : Addr) : Heap := h.push { cls := Value.type "tuple_iterator", data := Data.fields #[Value.ref l1, Value.int 0 0] }
@[reducible] def zM2 (h : Heap) (l1 l2 : Addr) : Heap := (zM1 h l1).push { cls := Value.type "list_iterator", data := Data.fields #[Value.ref l2, Value.int 0 0] }
@[reducible] def zM3 (h : Heap) (l1 l2 : Addr) : Heap := (zM2 h l1 l2).push { cls := Value.type "tuple", data := Data.seq #[Value.ref h.objs.size, Value.ref (zM1 h l1).objs.size] }
@[reducible] def zM4 (h : Heap) (l1 l2 : Addr) : Heap := (zM3 h l1 l2).push { cls := Value.type "tuple", data := Data.seq #[Value.none, Value.none] }
@[reducible] def zM5 (h : Heap) (l1 l2 : Addr) : Heap := (zM4 h l1 l2).push { cls := Value.type "zip", data := Data.fields #[Value.none, Value.bool false, Value.bool false, Value.ref (zM2 h l1 l2).objs.size, Value.ref (zM3 h l1 l2).objs.size] }
theorem meets_zipM_new (l1 l2 : Addr) (xs ys : Array Value) :
  Meets (Builtin.«zip.__new__» { pos := [Value.type "zip", Value.ref l1, Value.ref l2] }) fun _ R s =>
    s.heap.IsTuple l1 xs ∧ s.heap.IsList l2 ys ∧ R (Except.ok (Flow.ret (Value.ref (zM4 s.heap l1 l2).objs.size))) { heap := zM5 s.heap l1 l2, gens := s.gens, drawn := s.drawn, toks := s.toks, os := s.os } :=
  Meets.of_wp fun prog w A R s h => by
    obtain ⟨hp, gg, dq, tk, os⟩ := s
    obtain ⟨yl1, yl2, h⟩ := h
    have ysub := sub_zip
    have yL1 := yl1
    have yL2 := Heap.IsList.push yl2 { cls := Value.type "tuple_iterator", data := Data.fields #[Value.ref l1, Value.int 0 0] }
    unfold Builtin.«zip.__new__»
    refine wpAny_bind ?_
    refine wpAny_bind ?_
    refine wpAny_pure ?_
    refine wpAny_bind ?_
    refine wpAny_of_eq ysub ?_
    refine wpAny_pure ?_
    refine wpAny_bind ?_
    refine wpAny_bind ?_
    refine wpAny_bind ?_
    refine wpAny_bind ?_
    refine wpAny_holding ?_
    refine wpAny_pyIter_tuple yL1 ?_
    refine wpAny_pure ?_
    refine wpAny_bind ?_
    refine wpAny_bind ?_
    refine wpAny_holding ?_
    refine wpAny_pyIter_list yL2 ?_
    refine wpAny_pure ?_
    refine wpAny_pure ?_
    refine wpAny_pure ?_
    refine wpAny_bind ?_
    refine wpAny_bind ?_
    refine wpAny_alloc' ?_
    refine wpAny_pure ?_
    refine wpAny_bind ?_
    refine wpAny_bind ?_
    refine wpAny_alloc' ?_
    refine wpAny_pure ?_
    refine wpAny_bind ?_
    refine wpAny_bind ?_
    refine wpAny_alloc' ?_
    refine wpAny_pure ?_
    refine wpAny_pure ?_
    exact ⟨_, rfl, h⟩

theorem call_zipM {prog : Program} {w : World} {A : Around} {E : Value → Shared → Prop} {s : Shared} {l1 l2 : Addr} {xs ys : Array Value} {Q : Value → Shared → Prop} (yl1 : s.heap.IsTuple l1 xs) (yl2 : s.heap.IsList l2 ys)
    (h : ∀ h' : Heap, IsZip h' (s.heap.objs.size + 4) (s.heap.objs.size + 2) (s.heap.objs.size + 3) Value.none → IsPair h' (s.heap.objs.size + 2) (Value.ref s.heap.objs.size) (Value.ref (s.heap.objs.size + 1)) → IsPair h' (s.heap.objs.size + 3) Value.none Value.none → h'.IsTupleIter s.heap.objs.size l1 0 → h'.IsListIter (s.heap.objs.size + 1) l2 0 → h'.objs.size = s.heap.objs.size + 5 → (∀ (c : Addr) (o : Obj), s.heap.get? c = some o → h'.get? c = some o) → Q (Value.ref (s.heap.objs.size + 4)) { heap := h', gens := s.gens, drawn := s.drawn, toks := s.toks, os := s.os }) :
    wpAny (model prog w) A (call (Value.type "zip") [Value.ref l1, Value.ref l2]) Q E s := by
  refine callType_new F.called_zip (by decide) (F.typeCall_zip_2 (Value.ref l1) (Value.ref l2)) (F.newCall_zip_2 (Value.ref l1) (Value.ref l2)) (fun obj => F.args_object_init_3 obj (Value.ref l1) (Value.ref l2)) F.entry_zip_new (meets_zipM_new l1 l2 xs ys) ⟨yl1, yl2, ?_⟩
  have z1 : (zM1 s.heap l1).objs.size = s.heap.objs.size + 1 := Heap.size_push _ _
  have z2 : (zM2 s.heap l1 l2).objs.size = s.heap.objs.size + 2 := by rw [Heap.size_push, z1]
  have z3 : (zM3 s.heap l1 l2).objs.size = s.heap.objs.size + 3 := by rw [Heap.size_push, z2]
  have z4 : (zM4 s.heap l1 l2).objs.size = s.heap.objs.size + 4 := by rw [Heap.size_push, z3]
  have z5 : (zM5 s.heap l1 l2).objs.size = s.heap.objs.size + 5 := by rw [Heap.size_push, z4]
  have g5 : (zM5 s.heap l1 l2).get? (zM4 s.heap l1 l2).objs.size = some _ := Heap.get?_push_size (zM4 s.heap l1 l2) rfl
  have g4 : (zM5 s.heap l1 l2).get? (zM3 s.heap l1 l2).objs.size = some _ := Heap.get?_push_of_some _ (Heap.get?_push_size (zM3 s.heap l1 l2) rfl)
  have g3 : (zM5 s.heap l1 l2).get? (zM2 s.heap l1 l2).objs.size = some _ := Heap.get?_push_of_some _ (Heap.get?_push_of_some _ (Heap.get?_push_size (zM2 s.heap l1 l2) rfl))
  have g2 : (zM5 s.heap l1 l2).get? (zM1 s.heap l1).objs.size = some _ := Heap.get?_push_of_some _ (Heap.get?_push_of_some _ (Heap.get?_push_of_some _ (Heap.get?_push_size (zM1 s.heap l1) rfl)))
  have g1 : (zM5 s.heap l1 l2).get? s.heap.objs.size = some _ := Heap.get?_push_of_some _ (Heap.get?_push_of_some _ (Heap.get?_push_of_some _ (Heap.get?_push_of_some _ (Heap.get?_push_size s.heap rfl))))
  have kp : ∀ (c : Addr) (o : Obj), s.heap.get? c = some o → (zM5 s.heap l1 l2).get? c = some o := fun c o q => Heap.get?_push_of_some _ (Heap.get?_push_of_some _ (Heap.get?_push_of_some _ (Heap.get?_push_of_some _ (Heap.get?_push_of_some _ q))))
  show { heap := zM5 s.heap l1 l2, gens := s.gens, drawn := s.drawn, toks := s.toks, os := s.os : Shared }.TypeIs (Value.ref (zM4 s.heap l1 l2).objs.size) "zip" ∧ Q (Value.ref (zM4 s.heap l1 l2).objs.size) { heap := zM5 s.heap l1 l2, gens := s.gens, drawn := s.drawn, toks := s.toks, os := s.os }
  refine ⟨⟨_, g5, rfl⟩, ?_⟩
  rw [z4] at g5 ⊢
  rw [z3] at g4
  rw [z2] at g3
  rw [z1] at g2
  rw [z2, z3] at g5
  rw [z1] at g3
  exact h _ g5 g3 g4 ⟨_, g1, rfl, rfl⟩ ⟨_, g2, rfl, rfl⟩ z5 kp
def ItzM (K : Frag) (a b : Addr) : It where
  go i H := ∃ xs ys x y, SqT K H a xs ∧ SqL K H b ys ∧ xs[i]? = some x ∧ ys[i]? = some y
  yld i H v H' := ∃ T x y, v = V.ref T ∧ H T = none ∧ H' = upd H T (HO.tup [x, y]) ∧ (∀ xs, SqT K H a xs → xs[i]? = some x) ∧ ∀ ys, SqL K H b ys → ys[i]? = some y
  stop i H := ∃ xs ys, SqT K H a xs ∧ SqL K H b ys ∧ i ≤ xs.length ∧ i ≤ ys.length ∧ (i = xs.length ∨ i = ys.length)
theorem zsep {z TI TO i1 i2 a b : Addr} (D : ZipApart z TI TO i1 i2 a b) : ZipSep2 z TI TO i1 i2 [i1, a] [i2, b] := by
  have n : ∀ {x y w : Addr}, y ≠ x → w ≠ x → ¬ x ∈ [y, w] := fun h1 h2 q => by
    rcases List.mem_cons.mp q with q | q
    · exact h1 q.symm
    · exact h2 (List.mem_singleton.mp q).symm
  exact ⟨D.TIz, D.TOz, D.TITO, D.TIi1, List.mem_cons_self .., n D.i1z D.l1z, n D.TOi1.symm D.l1TO, D.TIi2, List.mem_cons_self .., n D.i2z D.l2z, n D.TOi2.symm D.l2TO, n D.i12.symm D.l2i1, n D.i12 D.l1i2⟩
theorem turn_zipM {P : Program} {w : World} {K : Frag} {elts : List Expr} {kk : Nat} {tpos : Pos} {a b z TI TO i1 i2 : Addr} (D : ZipApart z TI TO i1 i2 a b) :
    Turn P w K (Expr.Tuple elts kk tpos) (ItzM K a b) [z, TI, TO, i1, i2] z fun i h => IsZip h z TI TO Value.none ∧ IsPair h TI (Value.ref i1) (Value.ref i2) ∧ (∃ x y, IsPair h TO x y) ∧ h.IsTupleIter i1 a i ∧ h.IsListIter i2 b i where
  mem := List.mem_cons_self ..
  obj := fun i h yst c hc => by
    obtain ⟨yz, yTI, ⟨x, y, yTO⟩, ⟨o1, e1, _, d1⟩, ⟨o2, e2, _, d2⟩⟩ := yst
    simp only [List.mem_cons, List.not_mem_nil, or_false] at hc
    rcases hc with rfl | rfl | rfl | rfl | rfl
    · exact ⟨_, yz, fun v q => by cases q⟩
    · exact ⟨_, yTI, fun v q => by cases q⟩
    · exact ⟨_, yTO, fun v q => by cases q⟩
    · exact ⟨o1, e1, fun v q => by rw [d1] at q; cases q⟩
    · exact ⟨o2, e2, fun v q => by rw [d2] at q; cases q⟩
  keep := fun i h h' yst k => by
    obtain ⟨yz, yTI, ⟨x, y, yTO⟩, h1, h2⟩ := yst
    exact ⟨k z (by simp) _ yz, k TI (by simp) _ yTI, ⟨x, y, k TO (by simp) _ yTO⟩, h1.at fun o q => k i1 (by simp) o q, h2.at fun o q => k i2 (by simp) o q⟩
  item := fun X hP hw hK hc i pns s σ H E I yf yst yg => by
    subst hP hw hK
    obtain ⟨yz, yTI, ⟨x0, y0, yTO⟩, h1, h2⟩ := yst
    obtain ⟨xs, ys, x, y, ySx, ySy, hx, hy⟩ := yg
    obtain ⟨us1, vs1, p, _⟩ := Inv.tuple I ySx
    obtain ⟨us2, vs2, p2, _⟩ := Inv.list I ySy
    obtain ⟨u, yu, yr⟩ := Vals.get vs1 hx
    obtain ⟨u2, yu2, yr2⟩ := Vals.get vs2 hy
    have yL := Heap.lt_size yz
    have hA : X.A.in1.handled = none := I.ok.hd hc
    have lt1 : i < us1.toArray.size := by
      obtain ⟨q, _⟩ := List.getElem?_eq_some_iff.mp yu
      exact q
    have lt2 : i < us2.toArray.size := by
      obtain ⟨q, _⟩ := List.getElem?_eq_some_iff.mp yu2
      exact q
    refine wpAny_pyNext_zipD2_item (zsep D) (Draws.tuple hA i1 a D.l1i1 us1.toArray) (Draws.list hA i2 b D.l2i2 us2.toArray) yz yTI yTO ⟨h1, p⟩ ⟨h2, PlainL.isList p2⟩ lt1 lt2 ?_
    intro v1 v2 h' tk e1 e2 z' TO' q1 q2 hT yN yK
    obtain ⟨h1', _⟩ := q1
    obtain ⟨h2', _⟩ := q2
    have ev1 : v1 = u := by
      rw [List.getElem?_toArray, yu] at e1
      exact (Option.some.inj e1).symm
    have ev2 : v2 = u2 := by
      rw [List.getElem?_toArray, yu2] at e2
      exact (Option.some.inj e2).symm
    subst ev1
    subst ev2
    refine ⟨Value.ref s.heap.objs.size, rfl, wpAny_letOwnedTupleGo_zip z' fun h'' z'' yB => ?_⟩
    have yT2 : h''.get? s.heap.objs.size = some _ := (yB.2 s.heap.objs.size (Nat.ne_of_gt yL)).trans hT
    have J1 := Inv.turnedNew (h' := h'') (t' := tk) (ch := [z, TI, TO, i1, i2]) (ob := HO.tup [x, y]) I (fun c o hb q => (yB.2 c (fun q' => hb (by simp [q']))).trans (yK c o (fun q' => hb (by simp [q'])) (fun q' => hb (by simp [q'])) (fun q' => hb (by simp [q'])) (fun q' => hb (by simp [q'])) q)) yf (Nat.le_refl s.heap.objs.size) ⟨by show 2 ≤ sizeLine; rw [sizeLine_eq]; decide, [v1, v2], .cons yr (.cons yr2 .nil), _, yT2, rfl, 0, rfl⟩
    refine ⟨V.ref s.heap.objs.size, upd H s.heap.objs.size (HO.tup [x, y]), J1, rfl, ⟨_, x, y, rfl, HOk.fresh I.hok (Nat.le_refl _), rfl, fun l hl => by rw [Inv.tuple_inj I hl ySx]; exact hx, fun l hl => by rw [Inv.list_inj I hl ySy]; exact hy⟩, ⟨z'', (yB.2 TI D.TIz).trans (yK TI _ D.TIz D.TITO D.TIi1 D.TIi2 yTI), ⟨v1, v2, (yB.2 TO D.TOz).trans TO'⟩, h1'.at fun o q => (yB.2 i1 D.i1z).trans q, h2'.at fun o q => (yB.2 i2 D.i2z).trans q⟩, fun c yc => ?_⟩
    have ylt : c < s.heap.objs.size := by
      obtain ⟨o1, g1, _⟩ := h1
      obtain ⟨o2, g2, _⟩ := h2
      simp only [List.mem_cons, List.not_mem_nil, or_false] at yc
      rcases yc with rfl | rfl | rfl | rfl | rfl
      · exact Heap.lt_size yz
      · exact Heap.lt_size yTI
      · exact Heap.lt_size yTO
      · exact Heap.lt_size g1
      · exact Heap.lt_size g2
    rw [upd_ne (Nat.ne_of_lt ylt)]
    exact (yf c yc).1
  done := fun X hP hw hK hc i pns s σ H E I yf yst yg => by
    subst hP hw hK
    obtain ⟨yz, yTI, ⟨x0, y0, yTO⟩, h1, h2⟩ := yst
    obtain ⟨xs, ys, ySx, ySy, lx, ly, yend⟩ := yg
    obtain ⟨us1, vs1, p, _⟩ := Inv.tuple I ySx
    obtain ⟨us2, vs2, p2, _⟩ := Inv.list I ySy
    have l1 := Vals.length vs1
    have l2 := Vals.length vs2
    have hA : X.A.in1.handled = none := I.ok.hd hc
    have s1 : us1.toArray.size = us1.length := List.size_toArray
    have s2 : us2.toArray.size = us2.length := List.size_toArray
    refine wpAny_pyNext_zipD2_end (zsep D) (Draws.tuple hA i1 a D.l1i1 us1.toArray) (Draws.list hA i2 b D.l2i2 us2.toArray) yz yTI yTO ⟨h1, p⟩ ⟨h2, PlainL.isList p2⟩ (by omega) (by omega) (by omega) ?_
    intro h' tk yK
    exact ⟨rfl, Inv.turnedL (t' := tk) (ch := [z, TI, TO, i1, i2]) I (fun c o hb q => yK c o (fun q' => hb (by simp [q'])) (fun q' => hb (by simp [q'])) (fun q' => hb (by simp [q'])) (fun q' => hb (by simp [q'])) q) yf⟩
  self := fun A i s Q E yst h => wpAny_pyIter_zip yst.1 h
end DL

namespace DL
open PySem PySem.W PySem.Spec PyProof PyProof.Rows L2
/-! ## for x, y in zip(tuple or list, list) -/
def iZipX (K : Frag) (ta : TA) : TI := fun σ H R => ta σ H fun vs H1 => ∃ a b xs ys, vs = [V.ref a, V.ref b] ∧ ((SqL K H1 a xs ∧ SqL K H1 b ys ∧ R (Itz K a b) H1) ∨ (SqT K H1 a xs ∧ SqL K H1 b ys ∧ R (ItzM K a b) H1))
theorem pi_zipX {X : Cx} {e e2 : Expr} {ta : TA} {p pos tpos : Pos} {elts : List Expr} {kk : Nat} (yg : Gl X "zip") (hm : X.mg "zip" = none) (ha : PA X [e, e2] ta) (hs : starEach [e, e2] X.env = (false, eval e X.env) :: starEach [e2] X.env := by rfl) (ypl : ((backTo pos (starEach [e2] X.env)).any fun x => x.fst) = false := by rfl) :
    PI X (.Tuple elts kk tpos) (.Call (.Name "zip" p) [e, e2] [] pos) (iZipX X.K ta) where
  run := fun pns s σ H R I h => by
    refine Rows.Call_ (ld_blt I yg hm Rows.boot_zip (Rows.callWith_type1 (thn (ha.run pos pns s σ H (fun vs H1 => ∃ a b xs ys, vs = [V.ref a, V.ref b] ∧ ((SqL X.K H1 a xs ∧ SqL X.K H1 b ys ∧ R (Itz X.K a b) H1) ∨ (SqT X.K H1 a xs ∧ SqL X.K H1 b ys ∧ R (ItzM X.K a b) H1))) I h) fun us s1 hx => ?_) hs ypl) (by decide) (by decide)) rfl
    obtain ⟨vs, H1, J1, r1, a, b, xs, ys, rfl, q⟩ := hx
    cases r1 with
    | cons r rr =>
      cases rr with
      | cons r' rr' =>
        cases rr'
        cases r
        cases r'
        have pb : ∀ c : Addr, c ∈ [s1.heap.objs.size + 4, s1.heap.objs.size + 2, s1.heap.objs.size + 3, s1.heap.objs.size, s1.heap.objs.size + 1] → s1.heap.objs.size ≤ c := fun c yc => by
          simp only [List.mem_cons, List.not_mem_nil, or_false] at yc
          rcases yc with q | q | q | q | q
          · rw [q]; exact Nat.le_add_right _ _
          · rw [q]; exact Nat.le_add_right _ _
          · rw [q]; exact Nat.le_add_right _ _
          · rw [q]; exact Nat.le_refl _
          · rw [q]; exact Nat.le_add_right _ _
        rcases q with ⟨ySx, ySy, q⟩ | ⟨ySx, ySy, q⟩
        · obtain ⟨us1, vs1, p1, _⟩ := Inv.list J1 ySx
          obtain ⟨us2, vs2, p2, _⟩ := Inv.list J1 ySy
          refine call_zip_2 (PlainL.isList p1) (PlainL.isList p2) fun h' yz yTI yTO h1 h2 yN yK => wpAny_pyIter_zip yz ?_
          exact ⟨_, [s1.heap.objs.size + 4, s1.heap.objs.size + 2, s1.heap.objs.size + 3, s1.heap.objs.size, s1.heap.objs.size + 1], fun i h => IsZip h (s1.heap.objs.size + 4) (s1.heap.objs.size + 2) (s1.heap.objs.size + 3) Value.none ∧ IsPair h (s1.heap.objs.size + 2) (Value.ref s1.heap.objs.size) (Value.ref (s1.heap.objs.size + 1)) ∧ (∃ x y, IsPair h (s1.heap.objs.size + 3) x y) ∧ h.IsListIter s1.heap.objs.size a i ∧ h.IsListIter (s1.heap.objs.size + 1) b i, Itz X.K a b, H1, rfl, Inv.kept J1 yK, turn_zip (ktu_apart s1.heap.objs.size a b (PlainL.lt p1) (PlainL.lt p2)), ⟨yz, yTI, ⟨_, _, yTO⟩, h1, h2⟩, fun c yc => Inv.fpOk J1 (pb c yc) (HOk.fresh J1.hok (pb c yc)), q⟩
        · obtain ⟨us1, vs1, p1, _⟩ := Inv.tuple J1 ySx
          obtain ⟨us2, vs2, p2, _⟩ := Inv.list J1 ySy
          have la : a < s1.heap.objs.size := by
            obtain ⟨o, g, _⟩ := p1
            exact Heap.lt_size g
          refine call_zipM p1 (PlainL.isList p2) fun h' yz yTI yTO h1 h2 yN yK => wpAny_pyIter_zip yz ?_
          exact ⟨_, [s1.heap.objs.size + 4, s1.heap.objs.size + 2, s1.heap.objs.size + 3, s1.heap.objs.size, s1.heap.objs.size + 1], fun i h => IsZip h (s1.heap.objs.size + 4) (s1.heap.objs.size + 2) (s1.heap.objs.size + 3) Value.none ∧ IsPair h (s1.heap.objs.size + 2) (Value.ref s1.heap.objs.size) (Value.ref (s1.heap.objs.size + 1)) ∧ (∃ x y, IsPair h (s1.heap.objs.size + 3) x y) ∧ h.IsTupleIter s1.heap.objs.size a i ∧ h.IsListIter (s1.heap.objs.size + 1) b i, ItzM X.K a b, H1, rfl, Inv.kept J1 yK, turn_zipM (ktu_apart s1.heap.objs.size a b la (PlainL.lt p2)), ⟨yz, yTI, ⟨_, _, yTO⟩, h1, h2⟩, fun c yc => Inv.fpOk J1 (pb c yc) (HOk.fresh J1.hok (pb c yc)), q⟩
section
variable {K : PySem.W.Frag}
theorem walkZM {a b : Addr} {ds es : List PyData} : WalkD K (ItzM K a b) [(.ref a, .tuple ds), (.ref b, .list es)] (zipD ds es) where
  goes := fun i H hi ⟨O, h⟩ => by
    rw [zipD_len] at hi
    have h1 := h (.ref a, .tuple ds) (List.mem_cons_self ..)
    have h2 := h (.ref b, .list es) (List.mem_cons_of_mem _ (List.mem_singleton.mpr rfl))
    cases h1 with
    | tup hx _ hd =>
      cases h2 with
      | lst hy _ hd2 =>
        obtain ⟨v, e, _⟩ := hd.get (List.getElem?_eq_getElem (by omega : i < ds.length))
        obtain ⟨v2, e2, _⟩ := hd2.get (List.getElem?_eq_getElem (by omega : i < es.length))
        exact ⟨_, _, v, v2, hx, SqL.of hy, e, e2⟩
  stops := fun H ⟨O, h⟩ => by
    have h1 := h (.ref a, .tuple ds) (List.mem_cons_self ..)
    have h2 := h (.ref b, .list es) (List.mem_cons_of_mem _ (List.mem_singleton.mpr rfl))
    cases h1 with
    | tup hx _ hd =>
      cases h2 with
      | lst hy _ hd2 =>
        have l1 := hd.length
        have l2 := hd2.length
        exact ⟨_, _, hx, SqL.of hy, by rw [zipD_len]; omega, by rw [zipD_len]; omega, by rw [zipD_len]; omega⟩
  yields := fun i H v H' hi _ y O _ h => by
    obtain ⟨T, x, y', rfl, hT, rfl, y1, y2⟩ := y
    have h1 := h (.ref a, .tuple ds) (List.mem_cons_self ..)
    have h2 := h (.ref b, .list es) (List.mem_cons_of_mem _ (List.mem_singleton.mpr rfl))
    cases h1 with
    | tup hx _ hd =>
      cases h2 with
      | lst hy _ hd2 =>
        obtain ⟨d, e, p⟩ := hd.getV (y1 _ hx)
        obtain ⟨d2, e2, p2⟩ := hd2.getV (y2 _ (SqL.of hy))
        exact ⟨same_new hT, _, zipD_get ds es i d d2 e e2, pairD hT p p2⟩
end
def itZipX (f g : EM) : IM := fun r w => (f r w).bind fun d w1 => (g r w1).bind fun e w2 =>
  match d, e with
  | .list ds, .list es => .ok (zipD ds es) w2
  | .tuple ds, .list es => .ok (zipD ds es) w2
  | _, _ => .bad
section
variable {C : Dc} {σ : L2.St} {H : Hp} {R : It → Hp → Prop}
theorem red_itZipX {f g : EM} (h : tI C (itZipX f g) σ H R) : iZipX C.K (tCons (tD C f) (tCons (tD C g) tNil)) σ H R := by
  obtain ⟨P, ow, r, w, Rr, h⟩ := h
  refine ⟨P, ow, r, w, Rr, gE.bind h fun d w1 v H1 _ k1 R1 p1 h1 => ?_⟩
  refine ⟨P, ow, r, w1, R1, gE.bind h1 fun e w2 u H2 _ k2 R2 p2 h2 => ?_⟩
  have q1 := Do.keep k2 Rr.subO p1
  cases d with
  | list ds =>
    cases e with
    | list es =>
      cases id q1 with
      | @lst a xs _ hx n hd =>
        cases id p2 with
        | @lst b ys _ hy n2 hd2 =>
          exact ⟨a, b, xs, ys, rfl, .inl ⟨SqL.of hx, SqL.of hy, h2 (Itz C.K a b, _) H2 .refl R2 ⟨pin2 q1 p2, walkZ⟩⟩⟩
    | _ => exact h2.elim
  | tuple ds =>
    cases e with
    | list es =>
      cases id q1 with
      | @tup a xs _ hx n hd =>
        cases id p2 with
        | @lst b ys _ hy n2 hd2 =>
          exact ⟨a, b, xs, ys, rfl, .inr ⟨hx, SqL.of hy, h2 (ItzM C.K a b, _) H2 .refl R2 ⟨pin2 q1 p2, walkZM⟩⟩⟩
    | _ => exact h2.elim
  | _ => cases e <;> exact h2.elim
end
theorem iZpX {X : Cx} {c : Cn} {W : XW} {e1 e2 : Expr} {f g : EM} {p pos tpos : Pos} {elts : List Expr} {kk : Nat} (yg : Gl X "zip") (hm : X.mg "zip" = none) (h1 : PE X e1 (tD (dc X c W) f)) (h2 : PE X e2 (tD (dc X c W) g)) (hs : starEach [e1, e2] X.env = (false, eval e1 X.env) :: starEach [e2] X.env := by rfl) (hs' : ((backTo pos (starEach [e2] X.env)).any fun x => x.fst) = false := by rfl) (hs2 : starEach [e2] X.env = (false, eval e2 X.env) :: starEach [] X.env := by rfl) :
    PI X (.Tuple elts kk tpos) (.Call (.Name "zip" p) [e1, e2] [] pos) (tI (dc X c W) (itZipX f g)) := PI.imp (pi_zipX yg hm (pa_cons h1 (pa_cons h2 pa_nil hs2) hs) hs hs') fun _ _ _ => red_itZipX
end DL

namespace DL
open L2 PySem PySem.Spec PyProof.Rows
/-! ## tuple(range(a)) as data -/
theorem red_tupRg {C : Dc} {f : EM} {σ : L2.St} {H : Hp} {Q : VK} (h : tD C (eTup (itRg1 f)) σ H Q) : tTupRg (tRg1 (tD C f)) σ H Q := by
  obtain ⟨P, ow, r, w, R, h⟩ := h
  have h' : gE C (fD C) ((f r w).bind fun d w1 => ((match d with
    | .int n => if -16777216 ≤ n ∧ n ≤ 16777216 then .ok (rgD 0 n.toNat) w1 else .bad
    | _ => .bad : RE (List PyData))).bind fun ds w2 => if ds.length ≤ szL then .ok (.tuple ds) w2 else .bad) P ow r σ H Q := by
    have e : eTup (itRg1 f) r w = _ := rfl
    revert h
    unfold eTup itRg1
    cases f r w <;> exact id
  refine ⟨P, ow, r, w, R, gE.bind h' fun d w1 v H1 _ k1 R1 p1 h1 => ?_⟩
  cases d with
  | int n =>
    cases p1
    by_cases hn : -16777216 ≤ n ∧ n ≤ 16777216
    · simp only [if_pos hn, RE.bind_ok] at h1
      refine ⟨n, rfl, ⟨by omega, by omega, by omega, by omega, by omega⟩, fun q hq => ?_⟩
      have e : rgV 0 n = (List.range n.toNat).map fun (i : Nat) => V.int (0 + i) := by
        unfold rgV
        rw [Int.sub_zero]
      rw [e]
      by_cases hl : (rgD 0 n.toNat).length ≤ szL
      · rw [if_pos hl] at h1
        have st := step_same R1 (same_new (o := .tup ((List.range n.toNat).map fun (i : Nat) => V.int (0 + i))) hq)
        exact h1 _ _ st.1 st.2 (.tupN upd_same (DoAll.keep (.new (M := fun _ => False) hq) (fun _ z => z.elim) (by unfold rgD; exact DoAll.of_map _ fun a _ => .int _)))
      · rw [if_neg hl] at h1; exact h1.elim
    · simp only [if_neg hn, RE.bind_bad] at h1; exact h1.elim
  | _ => exact h1.elim
theorem dTupRg {X : Cx} {c : Cn} {W : XW} {a : Expr} {f : EM} {p p2 pos pos2 : Pos} (hc : X.calm = true) (hg : Gl X "tuple") (hm : X.mg "tuple" = none) (hg2 : Gl X "range") (hm2 : X.mg "range" = none) (ha : PE X a (tD (dc X c W) f)) (na : starEach [a] X.env = (false, eval a X.env) :: starEach [] X.env := by rfl)
    (na2 : starEach [.Call (.Name "range" p2) [a] [] pos2] X.env = (false, eval (.Call (.Name "range" p2) [a] [] pos2) X.env) :: starEach [] X.env := by rfl) : PE X (.Call (.Name "tuple" p) [.Call (.Name "range" p2) [a] [] pos2] [] pos) (tD (dc X c W) (eTup (itRg1 f))) :=
  PE.imp (pe_tupRg hc hg hm (prg_1 hg2 hm2 ha na) na2) fun _ _ _ => red_tupRg
end DL

namespace DL
open L2 PySem PySem.Spec PyProof.Rows
open PySem.W (AlikeAll)
/-! ## gcd, a module's name for a built-in function -/
def gcdD : List PyData → Option PyData
  | [.int a, .int b] => some (.int ((Nat.gcd a.natAbs b.natAbs : Nat) : Int))
  | _ => none
section
variable {X : Cx} {c : Cn} {W : XW} {e : Expr} {es : List Expr} {fl : IM} {pos : Pos}
theorem c_gcd : CallR X (.builtin "math.gcd") (rDs X.K gcdD) := by
  refine data_call cr_gcd fun xs H Q ds z O dom hd hg q => ?_
  match ds, hg, hd with
  | [.int a, .int b], hg, hd =>
    obtain ⟨v, u, rfl, p1, p2⟩ := two_do hd
    cases p1
    cases p2
    have hg1 : some (PyData.int ((Nat.gcd a.natAbs b.natAbs : Nat) : Int)) = some z := hg
    cases hg1
    exact ⟨a, b, rfl, q _ _ (Same.refl _) (.int _)⟩
theorem dBfun {x : Str} {p : Pos} {id : String} {g : List PyData → Option PyData} (hc : CallR X (.builtin id) (rDs X.K g)) (hg : Gl X x) (hm : X.mg x = some (.builtin id)) (ha : PA X (e :: es) (tL (dc X c W) fl)) (hdb : (x == ("__debug__" : Str)) = false := by decide)
    (he : starEach (e :: es) X.env = (false, eval e X.env) :: starEach es X.env := by rfl) (hpl : (backTo pos (starEach es X.env)).any (·.1) = false := by rfl) : PE X (.Call (.Name x p) (e :: es) [] pos) (tD (dc X c W) (eCall g fl)) := PE.imp (pe_callBfun hc hg hm ha hdb he hpl) fun _ _ _ => red_call
end
/-! ## min of a list of data that are alike -/
open Classical in
noncomputable def minAD : List PyData → Option PyData
  | [.list (d :: ds)] => if AlikeAll (d :: ds) ∧ PyData.depthAll (d :: ds) ≤ 60 ∧ PyData.hasDictAll (d :: ds) = false then some (PySem.W.minD d ds) else none
  | _ => none
theorem minAD_pos {d : PyData} {ds : List PyData} (h : AlikeAll (d :: ds) ∧ PyData.depthAll (d :: ds) ≤ 60 ∧ PyData.hasDictAll (d :: ds) = false) : minAD [.list (d :: ds)] = some (PySem.W.minD d ds) := by
  unfold minAD
  exact if_pos h
theorem minAD_neg {d : PyData} {ds : List PyData} (h : ¬ (AlikeAll (d :: ds) ∧ PyData.depthAll (d :: ds) ≤ 60 ∧ PyData.hasDictAll (d :: ds) = false)) : minAD [.list (d :: ds)] = none := by
  unfold minAD
  exact if_neg h
section
variable {X : Cx}
def rMinA (K : PySem.W.Frag) : List V → Hp → VK → Prop := fun xs H Q => ∃ (a : Addr) (ys : List V) (d : PyData) (ds : List PyData), xs = [V.ref a] ∧ SqL K H a ys ∧ DpAll K H ys (d :: ds) ∧ (AlikeAll (d :: ds) ∧ PyData.depthAll (d :: ds) ≤ 60) ∧
  ∀ (i : Nat) x, ys[i]? = some x → (d :: ds)[i]? = some (PySem.W.minD d ds) → Q x H
theorem cr_minA (hc : X.calm = true) (hu : X.A.units + 64 < cLine) : CallR X (.builtin "min") (rMinA X.K) := by
  intro pins s σ H vs us Q I r h
  obtain ⟨a, ys, d, ds, rfl, hs, hd, hp, q⟩ := h
  obtain ⟨its, rv, hl, _⟩ := I.list hs
  obtain ⟨as, ra⟩ := Dp.readsAll I _ _ its hd rv
  obtain ⟨al, dp⟩ := hp
  rw [Vals.ref1 r]
  refine min_at (I.ok.hd hc) hl.isList (by simpa using ra) al (by omega) fun i v h' tk hv hm hk => ?_
  cases hy : ys[i]? with
  | none =>
    have := Vals.none_of rv hy
    rw [show its.toArray[i]? = its[i]? from by simp, this] at hv
    cases hv
  | some x =>
    obtain ⟨u, hu2, rx⟩ := Vals.get rv hy
    rw [show its.toArray[i]? = its[i]? from by simp, hu2] at hv
    cases hv
    exact ⟨x, H, I.kept hk, rx, q i x hy hm⟩
theorem c_minA (hc : X.calm = true) (hu : X.A.units + 64 < cLine) : CallR X (.builtin "min") (rDs X.K minAD) := by
  refine data_call (cr_minA hc hu) fun xs H Q ds z O dom hd hg q => ?_
  match ds, hg, hd with
  | [.list (d :: ys)], hg, hd =>
    obtain ⟨v, rfl, p⟩ := one_do hd
    by_cases h : AlikeAll (d :: ys) ∧ PyData.depthAll (d :: ys) ≤ 60 ∧ PyData.hasDictAll (d :: ys) = false
    · rw [minAD_pos h] at hg
      cases hg
      cases p with
      | @lst a xs _ hx n ha =>
        refine ⟨a, xs, d, ys, rfl, SqL.of hx, ha.dp h.2.2, ⟨h.1, h.2.1⟩, fun i x h1 h2 => ?_⟩
        obtain ⟨x2, h3, h4⟩ := DoAll.at ha h2
        rw [h1] at h3
        cases h3
        exact q _ _ (Same.refl _) h4
    · rw [minAD_neg h] at hg
      cases hg
end
end DL

namespace DL
open L2 PySem PySem.Spec PyProof.Rows
/-! ## {} as data -/
section
variable {X : Cx} {c : Cn} {W : XW}
theorem red_dict0 {C : Dc} {σ : L2.St} {H : Hp} {Q : VK} (h : tD C (eC (.dict [])) σ H Q) : tDNewK σ H Q := by
  obtain ⟨P, ow, r, w, R, h⟩ := h
  intro p hp
  have st := step_same R (same_new (o := .dK []) hp)
  exact h _ _ st.1 st.2 (.dcK (es := []) (kvs := []) rfl upd_same (R.fresh hp) rfl .nil)
theorem dDict0 {pos : Pos} : PE X (.Dict [] [] pos) (tD (dc X c W) (eC (.dict []))) := PE.imp pe_dnewK fun _ _ _ => red_dict0
end
/-! ## x, y = [..], n, x an own list -/
def sOwnInt (i j : Nat) (l : IM) (n : Int) : SM := fun r w => (l r w).bindS fun ds w1 => if ds.length ≤ szL then .nx ((r.set i (.own ds)).set j (.val (.int n))) w1 else .bad
theorem red_ownInt {C : Dc} {D : Ends} {i j : Nat} {l : IM} {n : Int} {σ : L2.St} {H : Hp} (h : tS C (sOwnInt i j l n) D σ H) : tPar i j (tCons (tLst (tL C l)) (tCons (tD C (eC (.int n))) tNil)) D σ H := by
  obtain ⟨P, ow, r, w, R, h⟩ := h
  refine ⟨P, ow, r, w, R, gE.bindS h fun ds w1 vs H1 _ k1 R1 p1 h1 => ?_⟩
  by_cases hl : ds.length ≤ szL
  · rw [if_pos hl] at h1
    refine ⟨by rw [DoAll.length p1]; exact Nat.le_trans hl szL_le, fun p hp => ?_⟩
    have R2 := R1.setOwn i hp p1
    refine ⟨P, ow, r, w1, R1.new hp, ?_⟩
    intro v H3 k3 R3 p3
    have p3' : Do C.K H3 (Ow C.c.O0 ow) v (.int n) := p3
    cases p3'
    have st3 : StOk C.c.sa w1 H3 := R3.st
    have R2' : C.Rl P (owOn ow i p) (r.set i (.own ds)) w1 (σ.set i (some (.ref p))) H3 := R2.after k3 st3
    exact ⟨.ref p, .int n, rfl, h1 _ _ _ (R2'.setVal j (.int n))⟩
  · rw [if_neg hl] at h1; exact h1.elim
theorem stOwnInt {X : Cx} {c : Cn} {W : XW} {i j : Nat} {x y : Str} {es : List Expr} {l : IM} {n : Int} {px py pl pt pos pn : Pos} {kt k2 pt2 kn} (hc : X.calm = true) (hN : X.N.Nodup) (hi : X.N[i]? = some x) (hj : X.N[j]? = some y) (hij : i ≠ j)
    (hx : X.env.scope.names.lookup x = some .local) (hy : X.env.scope.names.lookup y = some .local) (ha : PA X es (tL (dc X c W) l))
    (hw : swappedStores [.Tuple [.Name x px, .Name y py] kt pt] (.Tuple [.List es pl, .Constant (.int n) kn pn] k2 pt2) X.env = pure (some [x, y]))
    (hs : swapsWithSole [.Tuple [.Name x px, .Name y py] kt pt] (.Tuple [.List es pl, .Constant (.int n) kn pn] k2 pt2) pos.line X.env = pure false := by rfl)
    (h1 : starEach [.List es pl, .Constant (.int n) kn pn] X.env = (false, eval (.List es pl) X.env) :: starEach [.Constant (.int n) kn pn] X.env := by rfl) (h2 : starEach [.Constant (.int n) kn pn] X.env = (false, eval (.Constant (.int n) kn pn) X.env) :: starEach [] X.env := by rfl) :
    PS X (.Assign [.Tuple [.Name x px, .Name y py] kt pt] (.Tuple [.List es pl, .Constant (.int n) kn pn] k2 pt2) pos) (tS (dc X c W) (sOwnInt i j l n)) :=
  PS.imp (ps_par hc hN hi hj hij hx hy (pa_cons (frLst ha) (pa_cons dI pa_nil h2) h1) hw hs) fun _ _ _ => red_ownInt
end DL

namespace DL
open L2 PySem PySem.Spec PyProof.Rows
/-! ## a list against an empty list, whatever it holds -/
def eqE (d e : PyData) : Option PyData :=
  match d, e with
  | .list xs, .list [] => some (.bool xs.isEmpty)
  | _, _ => none
theorem eqE_some {d e z : PyData} (h : eqE d e = some z) : ∃ xs, d = .list xs ∧ e = .list [] ∧ z = .bool xs.isEmpty := by
  cases d with
  | list xs =>
    cases e with
    | list ys =>
      cases ys with
      | nil => exact ⟨xs, rfl, rfl, (Option.some.inj h).symm⟩
      | cons _ _ => cases h
    | _ => cases h
  | _ => cases h
section
variable {X : Cx}
theorem o_eqE (hu : X.A.units + 64 < cLine) : OpR X (compareOp .Eq) (rD2 X.K eqE) := by
  intro pins s σ H x y v u Q I rx ry q
  obtain ⟨O, d, e, z, dom, hd, he, hg, q⟩ := q
  obtain ⟨ds, rfl, rfl, rfl⟩ := eqE_some hg
  cases hd with
  | @lst a xs _ ha _ hxs =>
    cases he with
    | @lst b ys _ hb _ hys =>
      cases hys
      cases rx
      cases ry
      obtain ⟨is, r1, l1, _⟩ := I.list (SqL.of ha)
      obtain ⟨js, r2, l2, _⟩ := I.list (SqL.of hb)
      cases r2
      have hl := r1.length
      have hl2 := DoAll.length hxs
      have go : ∀ b : Bool, b = ds.isEmpty → EP X pins σ Q (.bool b) s := fun b hb => by
        subst hb
        exact ⟨.bl _, H, I, rfl, q _ _ (Same.refl _) (.bl _)⟩
      cases is with
      | nil =>
        refine SeqAt.eq_listAt (e := fun _ => true) l1.isList l2.isList rfl (by omega) (fun j h1 => absurd h1 (by simp)) (go _ ?_)
        cases ds with
        | nil => rfl
        | cons _ _ => cases xs <;> simp at hl hl2
      | cons p r =>
        refine SeqAt.eq_list_lengthsAt l1.isList l2.isList (by simp) (by omega) (go _ ?_)
        cases ds with
        | nil => cases xs <;> simp at hl hl2
        | cons _ _ => rfl
end
end DL

namespace DL
open L2 PySem PySem.Spec PyProof.Rows
/-! ## row >> sign[0] & 1 == sign[1], where every object stays -/
def soB (a b x : Int) : Bool := Builtin.bitAnd (x / 2 ^ a.toNat) 1 == b
section
variable {P : Program} {w : World} {A : Around} {E : Value → Shared → Prop} {s : Shared} {env : Env} {t : Addr} {ta tb tx : Tok} {a b x : Int} {m : Str → Option Value} {j1 j2 j3 : Nat} {p1 p2 p3 p4 p5 p6 p7 p8 p9 p10 p11 p12 : Pos}
theorem so_item {k : Int} {u : Tok} {i : Nat} {v : Value} {e1 : Expr} {pos : Pos} {Q : Value → Shared → Prop} (ht : IsTup s.heap t #[.int a ta, .int b tb]) (h1 : -(2 ^ 63) ≤ k) (h2 : k < 2 ^ 63) (hi : seqIndex? k 2 = some i) (hx : (#[.int a ta, .int b tb] : Array Value)[i]? = some v) (h : Q v s) :
    wpAny (model P w) A (subscriptTail e1 (.Constant (.int k) j1 pos) (.ref t) (.int k u)) Q E s :=
  subscriptTail_builtinR (x := v) ht.typeIs slot_tuple_getitem.lookup (getItem_tuple (j := i) (Q := fun r s' => r = v ∧ Q r s') ht h1 h2 hi hx ⟨rfl, h⟩) (by rfl)
theorem so_body (hk : env.scope.kind = .function) (hr : env.kindOf "row" = some .local) (hs : env.kindOf "sign" = some .local) (hn : s.heap.Ns env.locals m) (m1 : m "row" = some (.int x tx)) (m2 : m "sign" = some (.ref t)) (ht : IsTup s.heap t #[.int a ta, .int b tb]) (ha : 0 ≤ a)
    {Q : Flow → Shared → Prop} (h : ∀ tk, Q (.ret (.bool (soB a b x))) { s with toks := tk }) :
    wpAny (model P w) A (execs [.Return (some (.Compare (.BinOp (.BinOp (.Name "row" p1) .RShift (.Subscript (.Name "sign" p2) (.Constant (.int 0) j1 p3) p4) p5) .BitAnd (.Constant (.int 1) j2 p6) p7) [.Eq] [.Subscript (.Name "sign" p8) (.Constant (.int 1) j3 p9) p10] p11)) p12] env) Q E s := by
  refine wpAny_execs_cons (wpAny_Return_some (wpAny_Compare1 (wpAny_BinOp (wpAny_BinOp ?_))))
  refine wpAny_Name (wpAny_loadName_local hk hr hn m1 ?_)
  refine Subscript_ (wpAny_Name (wpAny_loadName_local hk hs hn m2 (wpAny_Constant_int ?_)))
  refine so_item (i := 0) (s := { s with toks := _ }) ht (by decide) (by decide) rfl rfl ?_
  refine rshift_int ha (wpAny_Constant_int (and_int ?_))
  refine Subscript_ (wpAny_Name (wpAny_loadName_local hk hs hn m2 (wpAny_Constant_int ?_)))
  refine so_item (i := 1) (s := { s with toks := _ }) ht (by decide) (by decide) rfl rfl ?_
  refine eq_int ?_
  rw [Int.fdiv_eq_ediv_of_nonneg x (L2.two_pow_nn _)]
  exact h _
end
/-- the call, in a generator's frame -/
theorem so_call {P : Program} {w : World} {K : PySem.W.Frag} {A : Around} {E : Value → Shared → Prop} {s : Shared} {env : Env} {mg m : Str → Option Value} {st : Stmt} {f t c : Addr} {fd : FuncData} {ta tb tx : Tok} {a b x : Int} {j1 j2 j3 : Nat} {p1 p2 p3 p4 p5 p6 p7 p8 p9 p10 p11 p12 q1 q2 q3 q4 : Pos}
    (F : Fun K "is_so" "is_so" st f fd) (S : FnScope ["sign", "row"] ["sign", "row"] (defScope st)) (nc : ∀ y ∈ (defScope st).names, y.2 ≠ .cell) (bd : Binds K fd ["sign", "row"] []) (hm : mg "is_so" = some (.ref f))
    (hb : defBody st = [.Return (some (.Compare (.BinOp (.BinOp (.Name "row" p1) .RShift (.Subscript (.Name "sign" p2) (.Constant (.int 0) j1 p3) p4) p5) .BitAnd (.Constant (.int 1) j2 p6) p7) [.Eq] [.Subscript (.Name "sign" p8) (.Constant (.int 1) j3 p9) p10] p11)) p12])
    (hk : env.scope.kind = .function) (hg : env.globals = mainGlobals) (k1 : env.kindOf "is_so" = some .globalImplicit) (k2 : env.kindOf "sign" = some .free) (k3 : env.kindOf "row" = some .local) (hc : env.cells.lookup ("sign" : Str) = some c)
    (KX : K.In s.heap) (G : s.heap.Ns mainGlobals mg) (lim : s.heap.NoLimit) (cell : s.heap.IsCell c (some (.ref t))) (ht : IsTup s.heap t #[.int a ta, .int b tb]) (ha : 0 ≤ a) (hn : s.heap.Ns env.locals m) (m1 : m "row" = some (.int x tx)) (hd : A.depth < recursionLimit) :
    wpAny (model P w) A (eval (.Call (.Name "is_so" q1) [.Name "sign" q2, .Name "row" q3] [] q4) env) (fun y s' => y = .bool (soB a b x) ∧ Keeps s s') E s := by
  obtain ⟨oc, od, kV, doc, pm, an, cdv, ct, osl, rfl, lk, hcd⟩ := F.ex
  refine wpAny_Call_Name_kw (Calls.Name_function_global hk k1 (Calls.loadGlobal_global (by rw [hg]; exact G) hm ?_))
  refine PySem.W.callWith_K (h₀ := s.heap) KX F.kp ?_ (by rfl) (by rfl)
  show wpAny _ _ (spliced [(false, eval (.Name "sign" q2) env), (false, eval (.Name "row" q3) env)]) _ _ s
  refine Calls.spliced_cons (wpAny_Name (wpAny_loadName_free hk k2 hc cell ?_))
  refine Calls.spliced_cons (wpAny_Name (wpAny_loadName_local hk k3 hn m1 ?_))
  refine Calls.spliced_nil ⟨KX, ?_⟩
  have par : ∀ y ∈ ([("sign", Value.ref t), ("row", Value.int x tx)] : List (Str × Value)), (defScope st).names.lookup y.1 = some .local := fun y hy => by
    have hin : y.1 ∈ (["sign", "row"] : List Str) := by
      rcases List.mem_cons.mp hy with rfl | hy
      · exact List.mem_cons_self ..
      · rcases List.mem_cons.mp hy with rfl | hy
        · exact List.mem_cons_of_mem _ (List.mem_cons_self ..)
        · cases hy
    rcases S.par y.1 hin with z | z
    · exact z
    · exact absurd rfl (nc _ (PySem.mem_of_lookup z))
  refine wpAny_call (codeAny_mono (codeAny_call_function (R := fun r s' => r = .ok (.ret (.bool (soB a b x))) ∧ Keeps s s') hd (KX _ _ lk) rfl S.co S.gen rfl (PySem.W.codeRec_of KX hcd) (bd s [.ref t, .int x tx] KX rfl _ _ _ _ ?_)) fun r s' hq => ?_)
  · refine wpAny_newFunctionEnv nc par (fun h1 hns hsb => ?_) S.kind
    have kp : ∀ b o, s.heap.get? b = some o → h1.get? b = some o := fun b o e => hsb.extBut b o (Nat.ne_of_lt (Heap.lt_size e)) (Heap.get?_push_of_some _ e)
    refine ⟨lim.keeps kp, codeAny_func ?_⟩
    show wpAny _ _ (execs (defBody st) _) _ _ _
    rw [hb]
    have k4 : (defScope st).names.lookup ("row" : Str) = some .local := par ("row", .int x tx) (List.mem_cons_of_mem _ (List.mem_cons_self ..))
    have k5 : (defScope st).names.lookup ("sign" : Str) = some .local := par ("sign", .ref t) (List.mem_cons_self ..)
    refine so_body (m := fun y => ([("sign", Value.ref t), ("row", Value.int x tx)] : List (Str × Value)).reverse.lookup y) (by exact S.kind) (by exact k4) (by exact k5) hns (by rfl) (by rfl) (ht.keeps kp) ha fun tk => ?_
    exact ⟨rfl, h1, tk, rfl, kp⟩
  · obtain ⟨rfl, hq⟩ := hq
    exact ⟨rfl, hq⟩
end DL

namespace DL
open L2 PySem PySem.Spec PyProof.Rows
/-! ## a generator over a tuple of ints, whose element asks is_so(sign, row) -/
theorem inv_gens {X : Cx} {pins : List (Addr × Obj)} {σ : L2.St} {H : Hp} {s : Shared} {g' : Array GenState} {d' : Drawn} (I : Inv X pins σ H s) (hg : AllBare g') : Inv X pins σ H { s with gens := g', drawn := d' } :=
  ⟨I.ok, I.os, hg, I.base, I.loc, I.cell, I.free, I.freeC, I.pin, I.hok, I.len⟩
/-- the table may have grown; all else is as it was -/
structure Grew (P : Addr) (q : Str) (H H2 : Hp) : Prop where
  oth : ∀ b o, H b = some o → b ≠ P → H2 b = some o
  tab : LamX.TabS H2 P q
/-- the generator g, ready for its n items -/
def Rdy (X : Cx) (pins : List (Addr × Obj)) (σ : L2.St) (H1 : Hp) (P : Addr) (q : Str) (n : Nat) (tr : Nat → Bool) (g : Addr) (s5 : Shared) : Prop :=
  ∃ (fp wr : List Addr) (G : Array GenState → Array GenState → Prop) (Fv : Nat → Value → Prop) (St : Nat → Shared → Prop),
    WalksS X.prog X.w X.A.in1 g fp wr G n Fv St ∧ St 0 s5 ∧ TruthOf X.prog X.w X.A.in1 Fv tr ∧ ∀ s', Moved wr G s5 s' → ∃ H2, Grew P q H1 H2 ∧ Inv X pins σ H2 s'
def trN (tr : Int → Bool) (xs : List Int) (j : Nat) : Bool := match xs[j]? with
  | some x => tr x
  | none => false
section
variable {X : Cx} {s : Shared} {H : Hp} {σ : L2.St} {pins : List (Addr × Obj)}
theorem gen_so {cc P f : Addr} {iter : Expr} {px gpos : Pos} {scope : Scope} {te : TE} {k i : Nat} {q : Str} {Q' : Value → Shared → Prop} {st : Stmt} {fd : FuncData} {R : Hp → List Int → Int → Int → Prop} {j1 j2 j3 : Nat} {p1 p2 p3 p4 p5 p6 p7 p8 p9 p10 p11 p12 q1 q2 q3 q4 : Pos}
    (hr : Room k X.A) (TB : LamX.TabB X.base X.mg cc P) (hcode : X.env.code = .ref cc) (hq : q = X.env.qual ++ "<genexpr>") (S : GxR.GenS X.env scope "row")
    (F : Fun X.K "is_so" "is_so" st f fd) (S1 : FnScope ["sign", "row"] ["sign", "row"] (defScope st)) (nc : ∀ y ∈ (defScope st).names, y.2 ≠ .cell) (bd : Binds X.K fd ["sign", "row"] []) (hm : X.mg "is_so" = some (.ref f))
    (hb : defBody st = [.Return (some (.Compare (.BinOp (.BinOp (.Name "row" p1) .RShift (.Subscript (.Name "sign" p2) (.Constant (.int 0) j1 p3) p4) p5) .BitAnd (.Constant (.int 1) j2 p6) p7) [.Eq] [.Subscript (.Name "sign" p8) (.Constant (.int 1) j3 p9) p10] p11)) p12])
    (k1 : scope.names.lookup ("is_so" : Str) = some .globalImplicit) (k2 : scope.names.lookup ("sign" : Str) = some .free) (hN : X.N[i]? = some "sign") (hv : X.env.scope.names.lookup ("sign" : Str) = some .cell)
    (hi : PE X iter te) (hs : ∀ v, genFold iter X.env v = pure v) (I : Inv X pins σ H s)
    (h : te σ H fun v H1 => ∃ ty xs ts a b, v = .ref ty ∧ SqT X.K H1 ty (xs.map V.int) ∧ σ[i]? = some (some (.ref ts)) ∧ SqT X.K H1 ts [.int a, .int b] ∧ 0 ≤ a ∧ LamX.TabS H1 P q ∧ R H1 xs a b)
    (hQ : ∀ xs a b H1 g s5, R H1 xs a b → Rdy X pins σ H1 P q xs.length (trN (soB a b) xs) g s5 → Q' (.ref g) s5) :
    wpAny (model X.prog X.w) X.A (eval (.GeneratorExp (.Call (.Name "is_so" q1) [.Name "sign" q2, .Name "row" q3] [] q4) [⟨.Name "row" px, iter, [], 0⟩] scope gpos) X.env) Q' X.xe s := by
  refine wpAny_GeneratorExp_walksQD hr.hd S.co (closure_ok S.free) S.cell S.dot S.loc S.kind (by have := hr.dp; omega) ?_ hs
  refine thn (hi.run pins s σ H _ I h) fun xv s1 ⟨v, H1, I1, r1, z1⟩ => ?_
  obtain ⟨ty, xs, ts, a, b, rfl, hty, hts, hs2, ha, hT, hR⟩ := z1
  cases r1
  obtain ⟨its, rv, pl, hz⟩ := I1.tuple hty
  obtain ⟨sts, rvs, pls, _⟩ := I1.tuple hs2
  have lits : its.length = xs.length := by rw [← rv.length, List.length_map]
  obtain ⟨ta, tb, rfl⟩ : ∃ ta tb, sts = [.int a ta, .int b tb] := by
    cases rvs with
    | cons r1 rr =>
      cases rr with
      | cons r2 rr =>
        cases rr
        obtain ⟨t1, rfl⟩ := r1
        obtain ⟨t2, rfl⟩ := r2
        exact ⟨t1, t2, rfl⟩
  obtain ⟨ps, hP, ht3, hnm⟩ := _root_.id hT
  have ePs : s1.heap.get? P = some { cls := .none, data := .fields ps } := I1.hok P _ hP
  have lPt : P < s1.heap.objs.size := Heap.lt_size ePs
  refine wpAny_pyIter_tuple pl ?_
  generalize hio : ({ cls := .type "tuple_iterator", data := .fields #[.ref ty, .int 0 0] } : Obj) = io
  have eP2 : (s1.heap.push io).get? P = some { cls := .none, data := .fields ps } := Heap.get?_push_of_some _ ePs
  have cd : PySem.W.CodeHd (s1.heap.push io) cc P := TB.code.keeps fun d u e => Heap.get?_push_of_some _ (I1.bk d u e)
  have limI : (s1.heap.push io).NoLimit := I1.nolimit.push io
  have szI : (s1.heap.push io).objs.size = s1.heap.objs.size + 1 := Heap.size_push ..
  -- the sign's cell
  have hf2 : (("sign" : Str), NameKind.free) ∈ scope.names := PySem.mem_of_lookup k2
  obtain ⟨cs, hcs⟩ : ∃ c, (cloFrom X.env.cells scope.names []).lookup ("sign" : Str) = some c := mem_lookup (cloFrom_has (cells := X.env.cells) (acc := []) hf2)
  obtain ⟨c0, hc0⟩ := S.free _ hf2 rfl
  have hc0 : X.env.cells.lookup ("sign" : Str) = some c0 := hc0
  have ecs : cs = c0 := by
    rcases cloFrom_mem (PySem.mem_of_lookup hcs) with z | ⟨_, z⟩
    · cases z
    · rw [z, hc0]; rfl
  subst ecs
  have cell1 : s1.heap.IsCell cs (some (.ref ts)) := by
    obtain ⟨m, _, hl⟩ := I1.loc
    obtain ⟨u, ru, look⟩ := hl i _ _ hN hts (.inr (.inl hv))
    cases ru
    rcases look with ⟨z, _⟩ | ⟨_, c1, e1, e2⟩
    · rw [show X.env.kindOf ("sign" : Str) = some .cell from hv] at z
      cases z
    · rw [hc0] at e1
      cases e1
      exact e2
  have ncs : cs ≠ P := fun z => by
    have := I1.freeC _ _ hc0
    rw [z, hP] at this
    cases this
  have bP : ∀ d o, X.base.get? d = some o → d ≠ P := fun d o e z => by
    have := (I1.bs d o e).2
    rw [z, hP] at this
    cases this
  have nts : ts ≠ P := fun z => by
    obtain ⟨o, e, hc, n, hd⟩ := pls
    rw [z, ePs] at e
    cases e
    cases hd
  have nty : ty ≠ P := fun z => by
    obtain ⟨o, e, hc, n, hd⟩ := pl
    rw [z, ePs] at e
    cases e
    cases hd
  have cont : ∀ (code : Value) (h3 : Heap) (tk : Nat) (more : Array Value), Heap.ExtBut P (s1.heap.push io) h3 → (s1.heap.push io).objs.size ≤ h3.objs.size → h3.get? P = some { cls := .none, data := .fields (ps ++ more) } →
      (∀ (s' : Shared), s'.os = s1.os → AllBare s'.gens → (∀ d o, d ≠ P → s1.heap.get? d = some o → s'.heap.get? d = some o) → (∀ d o, s1.heap.objs.size < d → h3.get? d = some o → s'.heap.get? d = some o) → s'.heap.get? P = some { cls := .none, data := .fields (ps ++ more) } → ∃ H2, Grew P q H1 H2 ∧ Inv X pins σ H2 s') →
      wpAny (model X.prog X.w) X.A (builtinsFor X.env.globals X.env.builtins) (fun bns sx =>
        ∃ Ia fp wr n₀ Pf St₀ pz Fz, Value.ref s1.heap.objs.size = .ref Ia ∧ (∀ A' : Around, A'.handled = none → Walks X.prog X.w A' Ia fp wr n₀ Pf St₀) ∧ St₀ 0 sx.heap ∧ (∀ b ∈ fp, b < sx.heap.objs.size) ∧ sx.heap.NoLimit ∧ cStatics ∉ wr ∧
          (∀ hrf : Heap, (∀ b o, sx.heap.get? b = some o → hrf.get? b = some o) →
            QuietGenD X.prog X.w (genEnv scope (cloFrom X.env.cells scope.names []) sx.heap.objs.size code bns X.env) "row" [] (.Call (.Name "is_so" q1) [.Name "sign" q2, .Name "row" q3] [] q4) (List.range sx.heap.objs.size) wr Pf pz Fz hrf (X.A.depth + 1) (X.A.units + 8)) ∧
          (∀ a g5 tk gs, gs.bare = true → sx.heap.objs.size < a → g5.objs.size = a + 1 → (∀ b o, sx.heap.get? b = some o → g5.get? b = some o) →
            WalksS X.prog X.w X.A.in4 a (a :: sx.heap.objs.size :: List.range sx.heap.objs.size) (sx.heap.objs.size :: wr) (GenOnlyQ sx.gens.size) (passing pz n₀ 0).length
              (fun j y => ∃ i, (passing pz n₀ 0)[j]? = some i ∧ Fz i y) (GenAt X.prog X.w X.A.in4 a sx.gens.size sx.heap.objs.size (List.range sx.heap.objs.size) wr pz n₀ Fz) →
            GenAt X.prog X.w X.A.in4 a sx.gens.size sx.heap.objs.size (List.range sx.heap.objs.size) wr pz n₀ Fz 0 { sx with gens := sx.gens.push gs, toks := tk, heap := g5 } →
            Q' (.ref a) { sx with gens := sx.gens.push gs, toks := tk, heap := g5 })) X.xe { s1 with heap := h3, toks := tk } := by
    intro code h3 tk more hx hsz hP3 fin
    obtain ⟨bmo, ob, e1, e2, _, e4, e5, e6, e7, e8⟩ := TB.bm
    have nSP : cStatics ≠ P := fun e => by
      obtain ⟨_, ⟨o', es, ep, ho, hd, _⟩, _⟩ := I1.nolimit
      rw [e, ePs] at ho
      cases ho
      cases hd
    have lSt : cStatics < s1.heap.objs.size := let ⟨_, hnS, _⟩ := I1.nolimit; hnS.lt
    have old : ∀ d u, d ≠ P → s1.heap.get? d = some u → h3.get? d = some u := fun d u hd e => hx d u hd (Heap.get?_push_of_some _ e)
    refine wpAny_builtinsFor (m := X.mg) (by rw [I1.ok.glob]; exact ((I1.mod.glob.keeps I1.bk).push io).extBut hx TB.gP) e1 e2 (old _ _ e4 (I1.bk _ _ e5)) e6 e7 e8 ?_
    refine ⟨s1.heap.objs.size, [s1.heap.objs.size, ty], [s1.heap.objs.size], its.toArray.size, (fun i v => its.toArray[i]? = some v), _, (fun _ => true), (fun j y => ∃ x, xs[j]? = some x ∧ y = .bool (soB a b x)), rfl, fun A' hA => Walks.tuple hA _ ty ?_ _, ?_, ?_, limI.extBut hx nSP, ?_, ?_, ?_⟩
    · exact Nat.ne_of_lt (let ⟨o, e, _⟩ := pl; Heap.lt_size e)
    · have plt : ty < s1.heap.objs.size := let ⟨o, e, _⟩ := pl; Heap.lt_size e
      refine ⟨⟨io, hx _ _ (Nat.ne_of_gt lPt) (Heap.get?_push_size _ (by subst hio; rfl)), by subst hio; rfl, by subst hio; rfl⟩, ?_⟩
      obtain ⟨o, e, r⟩ := pl
      exact ⟨o, old _ _ nty e, r⟩
    · intro d hd
      rcases List.mem_cons.mp hd with z | z
      · rw [z]
        show s1.heap.objs.size < h3.objs.size
        omega
      · rcases List.mem_cons.mp z with z | z
        · rw [z]
          have plt : ty < s1.heap.objs.size := let ⟨o, e, _⟩ := pl; Heap.lt_size e
          have le9 : s1.heap.objs.size ≤ h3.objs.size := by omega
          exact Nat.lt_of_lt_of_le plt le9
        · cases z
    · intro z
      rcases List.mem_cons.mp z with z | z
      · exact Nat.ne_of_lt lSt z
      · cases z
    · intro hrf hhrf
      refine ⟨fun A' E' i v s₂ m₂ hA _ _ hPv hn hm2 hkk => ?_, fun A' E' j v s₂ m₂ hA hdp _ hPv _ hn hm2 hkk => ?_⟩
      · simp only [List.forIn_nil]
        exact wpAny_pure ⟨rfl, GxR.keeps_refl _⟩
      · have kp2 : ∀ d o, d ≠ P → s1.heap.get? d = some o → s₂.heap.get? d = some o := fun d o hd e => by
          have hl := Heap.lt_size e
          refine hkk d (List.mem_range.mpr (Nat.lt_of_lt_of_le hl (by show s1.heap.objs.size ≤ h3.objs.size; omega))) (fun z => ?_) o (hhrf _ _ (old d o hd e))
          rcases List.mem_cons.mp z with z | z
          · rw [z] at hl
            exact Nat.lt_irrefl _ hl
          · cases z
        have eb : ∀ d o, X.base.get? d = some o → s₂.heap.get? d = some o := fun d o e => kp2 d o (bP d o e) (I1.bk d o e)
        have hPv : its.toArray[j]? = some v := hPv
        rw [List.getElem?_toArray] at hPv
        have hj : j < xs.length := by
          have := (List.getElem?_eq_some_iff.mp hPv).1
          omega
        obtain ⟨u, eu, ru⟩ := rv.get (i := j) (x := .int xs[j]) (by rw [List.getElem?_map, List.getElem?_eq_getElem hj]; rfl)
        rw [hPv] at eu
        cases eu
        obtain ⟨tx, rfl⟩ := ru
        have cell2 : s₂.heap.IsCell cs (some (.ref ts)) := let ⟨o, e, r⟩ := cell1; ⟨o, kp2 _ _ ncs e, r⟩
        have pls2 : IsTup s₂.heap ts #[.int a ta, .int b tb] := let ⟨o, e, r⟩ := pls; ⟨o, kp2 _ _ nts e, r⟩
        refine wpAny_mono (so_call F S1 nc bd hm hb (env := genEnv scope (cloFrom X.env.cells scope.names []) h3.objs.size code builtinsNs X.env) S.kind I1.ok.glob k1 k2 S.loc hcs (I1.ok.mod.kin.keeps eb) (I1.mod.glob.keeps eb) (I1.ok.mod.nolimit.keeps eb) cell2 pls2 ha hn hm2 (by have := hr.dp; omega)) (fun y s3 r => ⟨⟨xs[j], List.getElem?_eq_getElem hj, r.1⟩, r.2⟩) fun _ _ e => e
    · intro g h5 tk5 gs bgs lag z5 kp5 W5 hat
      have lp : (passing (fun _ => true) its.toArray.size 0) = List.range its.toArray.size := GxR.passing_true _
      have e9 : its.toArray.size = xs.length := by rw [List.size_toArray]; exact lits
      rw [lp, List.length_range, e9] at W5
      rw [e9] at hat
      refine hQ xs a b H1 g _ hR ⟨_, _, _, _, _, W5.in4_1, hat, ?_, fun s' hmv => ?_⟩
      · intro j y sj Qj Ej hy hQj
        obtain ⟨i, hij, x, hx2, rfl⟩ := hy
        obtain ⟨hj, ej⟩ := List.getElem?_eq_some_iff.mp hij
        rw [List.getElem_range] at ej
        subst ej
        have e9 : trN (soB a b) xs j = soB a b x := by
          unfold trN
          rw [hx2]
        rw [e9] at hQj
        exact wpAny_truthy_bool hQj
      · have nwr : ∀ d, d < s1.heap.objs.size → d ∉ h3.objs.size :: [s1.heap.objs.size] := fun d hl hb => by
          rcases List.mem_cons.mp hb with z | z
          · rw [z] at hl
            have le9 : (h3.objs.size : Nat) < s1.heap.objs.size := hl
            omega
          · rcases List.mem_cons.mp z with z | z
            · rw [z] at hl
              exact Nat.lt_irrefl _ hl
            · cases z
        refine fin s' hmv.os (AllBare.movedS (I1.bare.push bgs) hmv) (fun d o hd e => hmv.heap d o (nwr d (Heap.lt_size e)) (kp5 d o (old d o hd e))) (fun d o hd e => hmv.heap d o (fun z => ?_) (kp5 d o e)) (hmv.heap P _ (nwr P lPt) (kp5 P _ hP3))
        have hl := Heap.lt_size e
        rcases List.mem_cons.mp z with z | z
        · rw [z] at hl
          exact Nat.lt_irrefl _ hl
        · rcases List.mem_cons.mp z with z | z
          · rw [z] at hd
            exact Nat.lt_irrefl _ hd
          · cases z
  refine ⟨limI, ?_⟩
  cases hf : codeAmong gpos ps.toList with
  | none =>
    refine wpAny_genexprCodeX hcode (cd.code eP2 ht3) (cd.tab eP2) hf fun c' h' tk hx hge hlt hco' hrec htab' _ => ?_
    refine cont _ h' tk _ hx (Nat.le_trans hge (Nat.le_of_lt hlt)) htab'.2 fun s' eo eg k1 k2 k3 => ?_
    obtain ⟨c2, oc, vs, t, e2, hoc, hd, hvv⟩ := hrec
    cases e2
    have hc' : s1.heap.objs.size < c' := by rw [szI] at hge; omega
    have nC : H1 c' = none := I1.hok.fresh (Nat.le_of_lt hc')
    have J := LamX.inv_table (q := q) (t' := s'.toks) (more := #[rawInt gpos.line, rawInt gpos.col, .ref c']) (h' := s'.heap) I1 hP (fun d o hd e => k1 d o hd e) k3 (Nat.le_of_lt hc') ⟨oc, vs, t, k2 c' oc hc' hoc, hd, by rw [hq]; exact hvv⟩
    have J2 := inv_gens (g' := s'.gens) (d' := s'.drawn) J eg
    rw [GxR.sh_eta s1 s' eo] at J2
    have keepH : ∀ d o, H1 d = some o → d ≠ P → (upd (upd H1 P (.tbl (ps ++ #[rawInt gpos.line, rawInt gpos.col, .ref c']))) c' (LamX.CodeO c' q)) d = some o := fun d o e hd => by
      rw [upd_ne (ne_of_none e nC), upd_ne hd]
      exact e
    refine ⟨_, ⟨keepH, _, by rw [upd_ne (ne_of_none hP nC), upd_same], ?_, fun pos cv hcv => ?_⟩, J2⟩
    · rw [Array.toList_append]
      exact PySem.TriplesOk_snoc _ _ _ _ ht3
    · rw [Array.toList_append] at hcv
      rcases LamX.among_app _ ht3 hcv with z | z
      · obtain ⟨c3, y1, y2⟩ := hnm pos cv z
        exact ⟨c3, y1, keepH _ _ y2 (fun y => by rw [y, hP] at y2; unfold LamX.CodeO at y2; cases y2)⟩
      · exact ⟨c', z, upd_same⟩
  | some cv =>
    refine wpAny_genexprCode_hit hcode (cd.code eP2 ht3) hf ?_
    refine cont cv (s1.heap.push io) s1.toks #[] (Heap.ExtBut.refl _ _) (Nat.le_refl _) (by rw [Array.append_empty]; exact eP2) fun s' eo eg k1 k2 k3 => ?_
    rw [Array.append_empty] at k3
    have J := I1.kept (h' := s'.heap) (t' := s'.toks) fun d u e => by
      by_cases hd : d = P
      · rw [hd] at e ⊢
        rw [ePs] at e
        cases e
        exact k3
      · exact k1 d u hd e
    have J2 := inv_gens (g' := s'.gens) (d' := s'.drawn) J eg
    rw [GxR.sh_eta s1 s' eo] at J2
    exact ⟨H1, ⟨fun _ _ e _ => e, hT⟩, J2⟩
end
end DL

namespace DL
open L2 PySem PySem.Spec PyProof.Rows
/-! ## all(is_so(sign, row) for row in e), any(..) -/
/-- a def that makes code objects: what is known of its code and its table -/
structure Mk (K : PySem.W.Frag) (base : Heap) (mg : Str → Option Value) (m : Str × Str) (c P : Addr) : Prop where
  tk : TK K P (qOf m)
  un : ∀ q, TK K P q → q = qOf m
  tb : LamX.TabB base mg c P
def soAll (al : Bool) (a b : Int) (xs : List Int) : Bool := if al = true then xs.all (soB a b) else xs.any (soB a b)
def soRes (al : Bool) (a b : Int) (d : PyData) (w : DS) : RE PyData :=
  match d with
  | .tuple ds => (match toInts ds with
    | some xs => if 0 ≤ a then .ok (.bool (soAll al a b xs)) w else .bad
    | none => .bad)
  | _ => .bad
def eSoG (al : Bool) (i : Nat) (fi : EM) : EM := fun r w =>
  match r[i]? with
  | some (.val (.tuple [.int a, .int b])) => (fi r w).bind fun d w1 => soRes al a b d w1
  | _ => .bad
theorem eSoG_inv {al : Bool} {i : Nat} {fi : EM} {r : List SV} {w : DS} : (∃ a b, r[i]? = some (.val (.tuple [.int a, .int b])) ∧ eSoG al i fi r w = (fi r w).bind fun d w1 => soRes al a b d w1) ∨ eSoG al i fi r w = .bad := by
  unfold eSoG
  split
  · rename_i a b e
    exact .inl ⟨a, b, e, rfl⟩
  · exact .inr rfl
theorem soRes_inv {al : Bool} {a b : Int} {d : PyData} {w : DS} : (∃ ds xs, d = .tuple ds ∧ toInts ds = some xs ∧ 0 ≤ a ∧ soRes al a b d w = .ok (.bool (soAll al a b xs)) w) ∨ soRes al a b d w = .bad := by
  cases d with
  | tuple ds =>
    cases e : toInts ds with
    | none => exact .inr (by simp [soRes, e])
    | some xs =>
      by_cases h : 0 ≤ a
      · exact .inl ⟨ds, xs, rfl, e, h, by simp [soRes, e, h]⟩
      · exact .inr (by simp [soRes, e, h])
  | _ => exact .inr rfl
section
variable {C : Dc} {P : List (V × PyData)} {ow : Nat → Option Addr} {r : List SV} {w : DS} {σ : L2.St} {H H2 : Hp}
theorem grew_step {T : Addr} {m : Str × Str} {base : Heap} {mg : Str → Option Value} {cc : Addr} (M : Mk C.K base mg m cc T) (R : C.Rl P ow r w σ H) (g : Grew T (qOf m) H H2) : Keep (SAd C.c.sa) H H2 ∧ C.Rl P ow r w σ H2 := by
  obtain ⟨s, es, eT⟩ := R.tk
  obtain ⟨h0, h1, h2, h3, h4⟩ := R.st s es
  have hT : s.T T (qOf m) := by rw [eT]; exact M.tk
  obtain ⟨ps, a1, a2, a3⟩ := h0 T _ hT
  have ne : ∀ b o, H b = some o → (∀ q, o ≠ .tbl q) → b ≠ T := fun b o e n z => by
    rw [z, a1] at e
    exact n ps (Option.some.inj e).symm
  have k : Keep (SAd C.c.sa) H H2 := ⟨fun b o e n => g.oth b o e fun z => n ⟨s, es, .inr (.inr (.inr ⟨qOf m, by rw [z]; exact hT⟩))⟩, fun b xs e => g.oth b _ e (ne b _ e nofun), fun b o u e => g.oth b _ e (ne b _ e nofun), fun b u e => g.oth b _ e (ne b _ e nofun)⟩
  refine ⟨k, R.after k fun s2 e2 => ?_⟩
  rw [es] at e2
  cases e2
  refine ⟨fun P' q' hp => ?_, g.oth _ _ h1 (ne _ _ h1 nofun), g.oth _ _ h2 (ne _ _ h2 nofun), g.oth _ _ h3 (ne _ _ h3 nofun), h4⟩
  by_cases hb : P' = T
  · subst hb
    have := M.un q' (by rw [← eT]; exact hp)
    subst this
    exact g.tab
  · obtain ⟨ps', b1, b2, b3⟩ := h0 P' q' hp
    refine ⟨ps', g.oth _ _ b1 hb, b2, fun pos cv hc => ?_⟩
    obtain ⟨c, e1, e2⟩ := b3 pos cv hc
    exact ⟨c, e1, k.ext _ _ e2⟩
end
theorem range_all (tr : Int → Bool) (xs : List Int) : (List.range xs.length).all (trN tr xs) = xs.all tr := by
  rw [Bool.eq_iff_iff, List.all_eq_true, List.all_eq_true]
  constructor
  · intro h x hx
    obtain ⟨j, hj, rfl⟩ := List.getElem_of_mem hx
    have := h j (List.mem_range.mpr hj)
    unfold trN at this
    rw [List.getElem?_eq_getElem hj] at this
    exact this
  · intro h j hj
    have hj := List.mem_range.mp hj
    unfold trN
    rw [List.getElem?_eq_getElem hj]
    exact h _ (List.getElem_mem hj)
theorem range_any (tr : Int → Bool) (xs : List Int) : (List.range xs.length).any (trN tr xs) = xs.any tr := by
  rw [Bool.eq_iff_iff, List.any_eq_true, List.any_eq_true]
  constructor
  · intro ⟨j, hj, h⟩
    have hj := List.mem_range.mp hj
    unfold trN at h
    rw [List.getElem?_eq_getElem hj] at h
    exact ⟨_, List.getElem_mem hj, h⟩
  · intro ⟨x, hx, h⟩
    obtain ⟨j, hj, rfl⟩ := List.getElem_of_mem hx
    refine ⟨j, List.mem_range.mpr hj, ?_⟩
    unfold trN
    rw [List.getElem?_eq_getElem hj]
    exact h
section
variable {X : Cx} {c : Cn} {W : XW}
theorem dSoG (al : Bool) (i : Nat) {cc T f : Addr} {iter : Expr} {px gpos p pos : Pos} {scope : Scope} {fi : EM} {k : Nat} {m : Str × Str} {st : Stmt} {fd : FuncData} {nm : Str} {j1 j2 j3 : Nat} {p1 p2 p3 p4 p5 p6 p7 p8 p9 p10 p11 p12 q1 q2 q3 q4 : Pos}
    (hnm : nm = if al = true then "all" else "any") (hr : Room k X.A) (M : Mk X.K X.base X.mg m cc T) (hcode : X.env.code = .ref cc) (hq : qOf m = X.env.qual ++ "<genexpr>") (S : GxR.GenS X.env scope "row")
    (F : Fun X.K "is_so" "is_so" st f fd) (S1 : FnScope ["sign", "row"] ["sign", "row"] (defScope st)) (nc : ∀ y ∈ (defScope st).names, y.2 ≠ .cell) (bd : Binds X.K fd ["sign", "row"] []) (hm : X.mg "is_so" = some (.ref f))
    (hb : defBody st = [.Return (some (.Compare (.BinOp (.BinOp (.Name "row" p1) .RShift (.Subscript (.Name "sign" p2) (.Constant (.int 0) j1 p3) p4) p5) .BitAnd (.Constant (.int 1) j2 p6) p7) [.Eq] [.Subscript (.Name "sign" p8) (.Constant (.int 1) j3 p9) p10] p11)) p12])
    (k1 : scope.names.lookup ("is_so" : Str) = some .globalImplicit) (k2 : scope.names.lookup ("sign" : Str) = some .free) (hN : X.N[i]? = some "sign") (hv : X.env.scope.names.lookup ("sign" : Str) = some .cell)
    (hg : Gl X nm) (hmn : X.mg nm = none) (hbt : bootBuiltins nm = some (.builtin (if al = true then "all" else "any"))) (hn : nm ≠ "__name__") (hdb : (nm == ("__debug__" : Str)) = false)
    (hi : PE X iter (tD (dc X c W) fi)) (hs : ∀ v, genFold iter X.env v = pure v)
    (he : starEach [.GeneratorExp (.Call (.Name "is_so" q1) [.Name "sign" q2, .Name "row" q3] [] q4) [⟨.Name "row" px, iter, [], 0⟩] scope gpos] X.env = (false, eval (.GeneratorExp (.Call (.Name "is_so" q1) [.Name "sign" q2, .Name "row" q3] [] q4) [⟨.Name "row" px, iter, [], 0⟩] scope gpos) X.env) :: starEach [] X.env := by rfl) :
    PE X (.Call (.Name nm p) [.GeneratorExp (.Call (.Name "is_so" q1) [.Name "sign" q2, .Name "row" q3] [] q4) [⟨.Name "row" px, iter, [], 0⟩] scope gpos] [] pos) (tD (dc X c W) (eSoG al i fi)) := by
  refine ⟨fun pins s σ H Q I h => ?_⟩
  obtain ⟨P0, ow, r, w, R, h⟩ := h
  cases (eSoG_inv (al := al) (i := i) (fi := fi) (r := r) (w := w)) with
  | inr e0 => rw [e0] at h; exact h.elim
  | inl z0 =>
  obtain ⟨a, b, er, e0⟩ := z0
  rw [e0] at h
  refine wpAny_Call_Name_kw (ld_blt I hg hmn hbt ?_ hn hdb)
  refine PyProof.Rows.callWith_builtin1 ?_ he (by rfl)
  rw [he]
  show wpAny _ _ (spliced ((false, eval (.GeneratorExp _ _ scope gpos) X.env) :: backTo pos (starEach [] X.env))) _ _ s
  refine Calls.spliced_cons (gen_so (R := fun H1 xs a2 b2 => ∀ H2, Grew T (qOf m) H1 H2 → Q (.bl (soAll al a2 b2 xs)) H2) (i := i) hr M.tb hcode hq S F S1 nc bd hm hb k1 k2 hN hv hi hs I ⟨P0, ow, r, w, R, gE.bind h fun d w1 v H1 _ kk R1 p1 h1 => ?_⟩ fun xs a2 b2 H1 g s5 hR hG => ?_)
  · cases (soRes_inv (al := al) (a := a) (b := b) (d := d) (w := w1)) with
    | inr e2 => rw [e2] at h1; exact h1.elim
    | inl z2 =>
    obtain ⟨ds, xs, rfl, e1, ha, e2⟩ := z2
    rw [e2] at h1
    obtain ⟨v2, ev, x, ex, p2⟩ := R1.slot i _ er
    subst ex
    have p1 : Do X.K H1 (Ow c.O0 ow) v (.tuple ds) := p1
    have p2 : Do X.K H1 (Ow c.O0 ow) x (.tuple [.int a, .int b]) := p2
    cases p1 with
    | @tup ty vs _ hty _ hall =>
      cases p2 with
      | @tup ts vs2 _ hts _ hall2 =>
        have ev1 := toInts_do hall e1
        subst ev1
        have ev2 : vs2 = [.int a, .int b] := toInts_do (ns := [a, b]) hall2 rfl
        subst ev2
        obtain ⟨s0, es, eT⟩ := R1.tk
        refine ⟨ty, xs, ts, a, b, rfl, hty, ev, hts, ha, (R1.st s0 es).1 T _ (by rw [eT]; exact M.tk), fun H2 g => ?_⟩
        obtain ⟨k2, R2⟩ := grew_step (C := dc X c W) M R1 g
        exact h1 _ H2 k2 R2 (.bl _)
  · obtain ⟨fp, wr, G, Fz, St, Wk, hst, htr, hI⟩ := hG
    refine Calls.spliced_nil ?_
    cases al with
    | true =>
      refine call_all_walkS (Wk.self 0 _ _ _ hst ⟨g, fp, wr, G, _, Fz, St, _, rfl, Wk, hst, htr, fun s' hmv => ?_⟩)
      obtain ⟨H2, g2, J⟩ := hI s' hmv
      refine ⟨.bl _, H2, J, rfl, ?_⟩
      rw [range_all]
      exact hR H2 g2
    | false =>
      refine call_any_walkS (Wk.self 0 _ _ _ hst ⟨g, fp, wr, G, _, Fz, St, _, rfl, Wk, hst, htr, fun s' hmv => ?_⟩)
      obtain ⟨H2, g2, J⟩ := hI s' hmv
      refine ⟨.bl _, H2, J, rfl, ?_⟩
      rw [range_any]
      exact hR H2 g2
end
end DL

namespace DL
open L2 PySem PySem.Spec PyProof.Rows
/-! ## what is known of a maker's table -/
theorem tab_mk {K : PySem.W.Frag} {x : Str} {f cc T : Addr} {oc oc2 : Value} {od od2 : Option Addr} {fd : FuncData} {sl sl2 : Array (Option Value)} {vs : Array Value} (a : PySem.W.nsIn K mainGlobals x = some (some (.ref f))) (l : K.lookup f = some ⟨oc, od, .func fd, sl⟩) (hc : fd.code = .ref cc)
    (l2 : K.lookup cc = some ⟨oc2, od2, .fields vs, sl2⟩) (hv : vs[11]? = some (.ref T)) : PySem.W.tabIn K x = some (cc, T) := by
  unfold PySem.W.tabIn
  simp only [a, l, hc, l2, hv]
/-- makers that the module has, and those that it hasn't -/
theorem mk_all {K : PySem.W.Frag} {l : List ((Str × Str) × Addr × Addr)} (h : ∀ m ∈ makers, PySem.W.tabIn K m.1 = none ∨ ∃ e ∈ l, e.1 = m ∧ PySem.W.tabIn K m.1 = some e.2) {P : Addr} {q : Str} (t : TK K P q) : ∃ e ∈ l, e.2.2 = P ∧ q = qOf e.1 := by
  obtain ⟨m, hm, c, ht, hq⟩ := t
  rcases h m hm with z | ⟨e, he, e1, e2⟩
  · rw [z] at ht; cases ht
  · rw [e2] at ht
    have := Option.some.inj ht
    exact ⟨e, he, by rw [this], by rw [e1]; exact hq⟩
/-! ## the law's end, where some tables are watched -/
section
variable {P : Program} {w : World} {K : PySem.W.Frag} {mg mb : Str → Option Value} {k : Nat} {fa a : Addr} {fd : FuncData} {x : Str} {sp : Sp} {t : Shared} {vs : List Value} {ns : List Int} {tb : List (Addr × Addr)}
theorem endT_at (gd : callerA.guards = some []) (KX : K.In t.heap) (gl : t.heap.Ns mainGlobals mg) (bl : t.heap.Ns builtinsNs mb) (bb : ∀ y : Str, y ≠ "__name__" → mb y = bootBuiltins y) (nl : t.heap.NoLimit) (g0 : t.gens = #[]) (rm : Room k callerA)
    (tt : ∀ p ∈ tb, t.heap.get? p.2 = some { cls := .none, data := .fields #[] }) (nk : ∀ p ∈ tb, K.lookup p.2 = none) (hd : ∀ p ∈ tb, PySem.W.CodeHd t.heap p.1 p.2)
    (bm : ∃ (e : Addr) (ob : Obj), mg "__builtins__" = some (.ref e) ∧ e ≠ builtinsNs ∧ t.heap.get? e = some ob ∧ ob.cls = .type "module" ∧ ob.dict = some builtinsNs ∧ ob.data = .plain)
    (ha : t.heap.get? a = some { cls := .type "list", data := .seq vs.toArray })
    (F : ∀ base : Heap, K.In base → base.Ns mainGlobals mg → (∀ p ∈ tb, LamX.TabB base mg p.1 p.2) → FnG P w K mg base k fa fd [x] sp) (bd : ∀ (s : Shared) (u : Value), BindsTo s fd ⟨[u], []⟩ [(x, u)]) {H : Hp} (ok : HOk P w H t.heap)
    (at1 : ∀ b o, H b = some o → (b = a ∧ ∃ o1 xs, o = .frz o1 (.lst xs)) ∨ ∃ p ∈ tb, p.2 = b) (kn : ∀ o, H a = some o → K.lookup a = none) (th : ∀ p ∈ tb, H p.2 = some (.tbl #[]))
    (call : sp [.ref a] H (fun v _ => v = .bl true) fun _ _ _ => False) :
    codeAny (model P w) callerA (.call (.ref fa) ⟨[.ref a], []⟩) (fun r s' => r = .ok (.ret (.bool true)) ∧ OldK t.heap s'.heap ∧ s'.os = t.os ∧ AllBare s'.gens) t := by
  -- what is neither a list nor an empty table is not watched
  have free : ∀ {b : Addr} {o : Obj}, t.heap.get? b = some o → (∀ n, o.data ≠ .seq vs.toArray n) → o.data ≠ .fields #[] → H b = none := fun {b o} e n1 n2 => by
    cases q : H b with
    | none => rfl
    | some u =>
      rcases at1 b u q with ⟨z, _⟩ | ⟨p, hp, z⟩
      · subst z
        rw [ha] at e
        cases e
        exact absurd rfl (n1 0)
      · subst z
        rw [tt p hp] at e
        cases e
        exact absurd rfl n2
  have dicts : ∀ {b : Addr} {m : Str → Option Value}, t.heap.Ns b m → (hidT t.heap H).Ns b m := fun ⟨o, es, ep, e, d, r⟩ =>
    ⟨o, es, ep, hidT_get e (free e (fun n z => by rw [d] at z; cases z) fun z => by rw [d] at z; cases z), d, r⟩
  have kin : K.In (hidT t.heap H) := fun b o e => hidT_get (KX b o e) (by
    cases q : H b with
    | none => rfl
    | some u =>
      rcases at1 b u q with ⟨z, _⟩ | ⟨p, hp, z⟩
      · subst z
        rw [kn u q] at e
        cases e
      · subst z
        rw [nk p hp] at e
        cases e)
  obtain ⟨mc, l1, l2⟩ := nl
  have known : ∀ p ∈ tb, LamX.TabB (hidT t.heap H) mg p.1 p.2 := fun p hp => by
    refine ⟨?_, ?_, fun z => ?_⟩
    · obtain ⟨o, us, f1, f2, f3, f4, f5, f6, f7, e, r1, r2, r3, r⟩ := hd p hp
      refine ⟨o, us, f1, f2, f3, f4, f5, f6, f7, hidT_get e (free e (fun n z => by rw [r2] at z; cases z) fun z => ?_), r1, r2, r3, r⟩
      rw [r2] at z
      cases z
      simp at r3
    · obtain ⟨e, ob, b1, b2, b3, b4, b5, b6⟩ := bm
      have n1 : e ≠ mainGlobals := fun z => by
        obtain ⟨o, es, ep, y, d, _⟩ := gl
        rw [z, y] at b3
        cases b3
        rw [d] at b6
        cases b6
      have n2 : e ≠ p.2 := fun z => by
        rw [z, tt p hp] at b3
        cases b3
        cases b6
      exact ⟨e, ob, b1, b2, n1, n2, hidT_get b3 (free b3 (fun n z => by rw [b6] at z; cases z) fun z => by rw [b6] at z; cases z), b4, b5, b6⟩
    · obtain ⟨o, es, ep, y, d, _⟩ := gl
      rw [z, tt p hp] at y
      cases y
      cases d
  have env : Env0 P w K mg (hidT t.heap H) callerA [] t H := ⟨rfl, ⟨kin, dicts gl, ⟨mb, dicts bl, bb⟩, mc, dicts l1, l2⟩, fun b o e => of_hidT e, Nat.le_of_eq (hidT_size _ _), trivial, fun b z => absurd (show b ∈ ([] : List Addr) from z) (by simp), ok, .of_eq g0⟩
  refine codeAny_mono ((F _ kin (dicts gl) known).run callerA [] t H ⟨[.ref a], []⟩ [.ref a] [.ref a] _ _ rm gd env (bd t (.ref a)) (.cons rfl .nil) call) fun r s' h => ?_
  match r, h with
  | .error e, h => exact h.elim
  | .ok .next, h => exact h.elim
  | .ok .brk, h => exact h.elim
  | .ok .cont, h => exact h.elim
  | .ok (.ret u), h =>
    obtain ⟨v, H2, eo, eg, un, ok2, rv, e1⟩ := h
    have e2 : v = .bl true := e1
    subst e2
    have e3 : u = Value.bool true := rv
    subst e3
    have same : ∀ b o, (∀ p ∈ tb, p.2 ≠ b) → t.heap.get? b = some o → s'.heap.get? b = some o := fun b o nb e => by
      cases q : H b with
      | none => exact un.keep b o e q (fun z => absurd (show b ∈ ([] : List Addr) from z) (by simp)) (by simp)
      | some u =>
        rcases at1 b u q with ⟨_, o1, xs, z⟩ | ⟨p, hp, z⟩
        · subst z
          have y1 := (ok b _ q).1
          have y2 := (ok2 b _ (un.frzs b o1 _ q)).1
          rw [e] at y1
          cases y1
          exact y2
        · exact absurd z (nb p hp)
    have more : ∀ p ∈ tb, ∃ ms : Array Value, s'.heap.get? p.2 = some { cls := .none, data := .fields ms } := fun p hp => by
      obtain ⟨ms, z⟩ := un.tbls p.2 #[] (th p hp)
      exact ⟨_, ok2 p.2 _ z⟩
    refine ⟨rfl, ⟨fun b o e => ?_, fun b o e => ?_⟩, eo, eg⟩
    · by_cases hb : ∃ p ∈ tb, p.2 = b
      · obtain ⟨p, hp, rfl⟩ := hb
        obtain ⟨ms, z⟩ := more p hp
        rw [tt p hp] at e
        cases e
        exact .inr (.inl ⟨((hd p hp).tab (tt p hp)).isCodeTable, rfl, #[], ms, rfl, by rw [Array.empty_append]; exact z⟩)
      · exact .inl (same b o (fun p hp z => hb ⟨p, hp, z⟩) e)
    · by_cases hb : ∃ p ∈ tb, p.2 = b
      · obtain ⟨p, hp, rfl⟩ := hb
        obtain ⟨ms, z⟩ := more p hp
        exact ⟨_, z⟩
      · exact ⟨o, same b o (fun p hp z => hb ⟨p, hp, z⟩) e⟩
theorem endT_call (gd : callerA.guards = some []) (KX : K.In t.heap) (gl : t.heap.Ns mainGlobals mg) (bl : t.heap.Ns builtinsNs mb) (bb : ∀ y : Str, y ≠ "__name__" → mb y = bootBuiltins y) (nl : t.heap.NoLimit) (g0 : t.gens = #[]) (rm : Room k callerA)
    (tt : ∀ p ∈ tb, t.heap.get? p.2 = some { cls := .none, data := .fields #[] }) (nk : ∀ p ∈ tb, K.lookup p.2 = none) (hd : ∀ p ∈ tb, PySem.W.CodeHd t.heap p.1 p.2)
    (bm : ∃ (e : Addr) (ob : Obj), mg "__builtins__" = some (.ref e) ∧ e ≠ builtinsNs ∧ t.heap.get? e = some ob ∧ ob.cls = .type "module" ∧ ob.dict = some builtinsNs ∧ ob.data = .plain)
    (ha : t.heap.get? a = some { cls := .type "list", data := .seq vs.toArray }) (hi : IntsAre vs ns) (hl : ns.length ≤ sizeLine)
    (F : ∀ base : Heap, K.In base → base.Ns mainGlobals mg → (∀ p ∈ tb, LamX.TabB base mg p.1 p.2) → FnG P w K mg base k fa fd [x] sp) (bd : ∀ (s : Shared) (u : Value), BindsTo s fd ⟨[u], []⟩ [(x, u)])
    (call : ∀ H : Hp, SqL K H a (ns.map V.int) → (∀ p ∈ tb, H p.2 = some (.tbl #[])) → sp [.ref a] H (fun v _ => v = .bl true) fun _ _ _ => False) :
    codeAny (model P w) callerA (.call (.ref fa) ⟨[.ref a], []⟩) (fun r s' => r = .ok (.ret (.bool true)) ∧ OldK t.heap s'.heap ∧ s'.os = t.os ∧ AllBare s'.gens) t := by
  have len := hi.length
  have rv := vals_ints hi
  have na : ∀ p ∈ tb, p.2 ≠ a := fun p hp z => by
    have := tt p hp
    rw [z, ha] at this
    have q : Data.seq vs.toArray _ = Data.fields #[] := congrArg Obj.data (Option.some.inj this)
    cases q
  cases lk : K.lookup a with
  | some o =>
    have e := KX a o lk
    rw [ha] at e
    cases e
    have hH : ∀ b o, (fun b => if b ∈ tb.map (·.2) then some (HO.tbl #[]) else none : Hp) b = some o → b ∈ tb.map (·.2) ∧ o = .tbl #[] := fun b o z => by
      by_cases hb : b ∈ tb.map (·.2)
      · exact ⟨hb, (Option.some.inj ((if_pos hb).symm.trans z)).symm⟩
      · cases (if_neg hb).symm.trans z
    have hm : ∀ p ∈ tb, (fun b => if b ∈ tb.map (·.2) then some (HO.tbl #[]) else none : Hp) p.2 = some (.tbl #[]) := fun p hp => if_pos (List.mem_map.mpr ⟨p, hp, rfl⟩)
    refine endT_at (H := fun b => if b ∈ tb.map (·.2) then some (HO.tbl #[]) else none) gd KX gl bl bb nl g0 rm tt nk hd bm ha F bd (fun b u z => ?_) (fun b o z => ?_) (fun o z => ?_) hm (call _ (.inr ⟨_, vs.toArray, _, lk, rfl, rfl, rfl, by rw [List.size_toArray, len]; exact hl, by simpa using rv⟩) hm)
    · obtain ⟨z1, rfl⟩ := hH b u z
      obtain ⟨p, hp, rfl⟩ := List.mem_map.mp z1
      exact tt p hp
    · obtain ⟨z1, _⟩ := hH b o z
      obtain ⟨p, hp, z2⟩ := List.mem_map.mp z1
      exact .inr ⟨p, hp, z2⟩
    · obtain ⟨z1, _⟩ := hH a o z
      obtain ⟨p, hp, z2⟩ := List.mem_map.mp z1
      exact absurd z2 (na p hp)
  | none =>
    have hH : ∀ b o, (fun b => if b = a then some (HO.frz { cls := .type "list", data := .seq vs.toArray } (.lst (ns.map V.int))) else if b ∈ tb.map (·.2) then some (HO.tbl #[]) else none : Hp) b = some o → (b = a ∧ o = .frz { cls := .type "list", data := .seq vs.toArray } (.lst (ns.map V.int))) ∨ (b ∈ tb.map (·.2) ∧ o = .tbl #[]) := fun b o z => by
      by_cases hb : b = a
      · exact .inl ⟨hb, (Option.some.inj ((if_pos hb).symm.trans z)).symm⟩
      · have z1 := (if_neg hb).symm.trans z
        by_cases hc : b ∈ tb.map (·.2)
        · exact .inr ⟨hc, (Option.some.inj ((if_pos hc).symm.trans z1)).symm⟩
        · cases (if_neg hc).symm.trans z1
    have hm : ∀ p ∈ tb, (fun b => if b = a then some (HO.frz { cls := .type "list", data := .seq vs.toArray } (.lst (ns.map V.int))) else if b ∈ tb.map (·.2) then some (HO.tbl #[]) else none : Hp) p.2 = some (.tbl #[]) := fun p hp => (if_neg (na p hp)).trans (if_pos (List.mem_map.mpr ⟨p, hp, rfl⟩))
    have self : (fun b => if b = a then some (HO.frz { cls := .type "list", data := .seq vs.toArray } (.lst (ns.map V.int))) else if b ∈ tb.map (·.2) then some (HO.tbl #[]) else none : Hp) a = some (.frz { cls := .type "list", data := .seq vs.toArray } (.lst (ns.map V.int))) := if_pos rfl
    refine endT_at (H := fun b => if b = a then some (HO.frz { cls := .type "list", data := .seq vs.toArray } (.lst (ns.map V.int))) else if b ∈ tb.map (·.2) then some (HO.tbl #[]) else none) gd KX gl bl bb nl g0 rm tt nk hd bm ha F bd (fun b u z => ?_) (fun b o z => ?_) (fun o z => lk) hm (call _ (.inl (.inr ⟨_, self⟩)) hm)
    · rcases hH b u z with ⟨rfl, rfl⟩ | ⟨z1, rfl⟩
      · exact ⟨ha, by rw [List.length_map]; exact hl, vs, _, rv, ha⟩
      · obtain ⟨p, hp, rfl⟩ := List.mem_map.mp z1
        exact tt p hp
    · rcases hH b o z with ⟨z1, z2⟩ | ⟨z1, _⟩
      · exact .inl ⟨z1, _, _, z2⟩
      · obtain ⟨p, hp, z2⟩ := List.mem_map.mp z1
        exact .inr ⟨p, hp, z2⟩
end
theorem endT_walk {l : PySem.W.OpenLaw} {n k : Nat} {q : Program} {loose : List Str} {XP : (Str → Option Value) → Heap → Prop} {YP : World → Heap → Prop} {d : DefRec} {K : Params → PySem.W.Frag} {sp : PySem.W.Frag → Sp} {x : Str} {mk : List Str} (gd : callerA.guards = some [])
    (hn : l.most = some n) (h2 : n ≤ sizeLine) (df : d.params.defaults = []) (rm : Room k callerA) (hY : ∀ (w : World) (h : Heap), YP w h → (K w.params).In h) (hrec : ∀ y ∈ mk, ((recsOf q).find? fun e => e.name == y).isSome = true)
    (F : ∀ (w : World) (mg : Str → Option Value) (fa : Addr) (h : Heap), (K w.params).In h → h.Ns mainGlobals mg → mg d.name = some (.ref fa) →
      ∃ (fd : FuncData) (tb : List (Addr × Addr)), (∀ p ∈ tb, ∃ y ∈ mk, PySem.W.tabIn (K w.params) y = some p) ∧ (∀ p ∈ tb, (K w.params).lookup p.2 = none) ∧ (∀ P q, TK (K w.params) P q → ∃ p ∈ tb, p.2 = P) ∧ (∀ (s : Shared) (u : Value), BindsTo s fd ⟨[u], []⟩ [(x, u)]) ∧
        ∀ base : Heap, (K w.params).In base → base.Ns mainGlobals mg → (∀ p ∈ tb, LamX.TabB base mg p.1 p.2) → FnG l.prog w (K w.params) mg base k fa fd [x] (sp (K w.params)))
    (call : ∀ (K : PySem.W.Frag) (H : Hp) (a : Addr) (ns : List Int), ns.length ≤ n → SqL K H a (ns.map V.int) → TabsP (TK K) H → sp K [.ref a] H (fun v _ => v = .bl true) fun _ _ _ => False) :
    PySem.W.WalkO q loose XP YP l.row.toRowW d [] (fun f vs => PySem.call f vs) := by
  refine Att.attach_call hn df fun w s0 s1 mg mb fa o pm cd doc a vs ns G Y ho hd hcd hmg hobj hints hlen hg => ?_
  have KX := hY w _ Y
  obtain ⟨fd, tb, ht, nk, all, bd, hF⟩ := F w mg fa _ KX G.T.g hmg
  have at_ : ∀ p ∈ tb, PySem.W.CodeHd s1.heap p.1 p.2 ∧ s1.heap.get? p.2 = some { cls := .none, data := .fields #[] } := fun p hp => by
    obtain ⟨y, hy, e⟩ := ht p hp
    obtain ⟨r, er⟩ := Option.isSome_iff_exists.mp (hrec y hy)
    exact PySem.W.tab_of G.T KX er e
  refine endT_call gd KX G.T.g G.T.b G.T.builtins G.T.nolimit hg rm (fun p hp => (at_ p hp).2) nk (fun p hp => (at_ p hp).1) G.T.bmain hobj hints (Nat.le_trans hlen h2) hF bd fun H hS hm => call _ H a ns hlen hS fun P q z => ?_
  obtain ⟨p, hp, rfl⟩ := all P q z
  exact LamX.TabS.nil (hm p hp)
/-! ## a generator expression's own names -/
def genSB (sc scope : Scope) (x : Str) : Bool :=
  decide (scope.kind = .function) && !scope.isCoroutine && decide (scope.names.lookup (".0" : Str) = some NameKind.local) && decide (scope.names.lookup x = some .local) && scope.names.all fun y => !decide (y.2 = .cell) && (!decide (y.2 = .free) || decide (sc.names.lookup y.1 = some .cell))
theorem genS_by {qual : Str} {sc scope : Scope} {L f : Addr} {cd : Value} {x : Str} (h : genSB sc scope x = true) : GxR.GenS (envOfC qual sc L f cd) scope x := by
  unfold genSB at h
  simp only [Bool.and_eq_true, Bool.or_eq_true, Bool.not_eq_true', decide_eq_true_eq, decide_eq_false_iff_not, List.all_eq_true] at h
  obtain ⟨⟨⟨⟨h1, h2⟩, h3⟩, h4⟩, h5⟩ := h
  refine ⟨h1, h2, fun y hy => (h5 y hy).1, h3, h4, fun y hy e => ?_⟩
  rcases (h5 y hy).2 with z | z
  · exact absurd e z
  · exact cell_has z
end DL

namespace DL
open L2 PySem PySem.Spec PyProof.Rows
/-! ## _law_like, called within an except suite -/
def spLk (K : PySem.W.Frag) (vs : List V) (H : Hp) (Q : VK) : Prop := ∃ x y d, vs = [x, y] ∧ Dp K H x d ∧ Dp K H y d ∧ okR d ∧ Q (.bl true) H
structure LikeH (P : Program) (w : World) (K : PySem.W.Frag) (mg : Str → Option Value) (base : Heap) : Prop where
  ex : ∃ (f : Addr) (fd : FuncData) (ps : List Str), ps.length = 2 ∧ mg "_law_like" = some (.ref f) ∧ PySem.W.keepIn K (.ref f) = true ∧ Binds K fd ps [] ∧
    ∀ (A : Around) (outer : List Env) (s : Shared) (H : Hp) (args : Args) (us : List Value) (vs : List V) (Q : VK) (p : Addr × Obj), L2H.RoomH 1 A → A.guards = some [] → L2H.PinOk outer H s p → Env0 P w K mg base A outer s H → BindsTo s fd args (ps.zip us) → Vals vs us → spLk K vs H Q →
      codeAny (model P w) A (.call (.ref f) args) (CR CX0 outer P w H s Q E0) s
theorem likeH_mk {P : Program} {w : World} {K : PySem.W.Frag} {mg : Str → Option Value} {base : Heap} {f : Addr} {fd : FuncData} {st : Stmt} {gn dn : Str} (F : Fun K "_law_like" "_law_like" st f fd) (S : FnScope [gn, dn] [gn, dn] (defScope st)) (mr : mg "repr" = none) (hm : mg "_law_like" = some (.ref f)) (hbi : Binds K fd [gn, dn] [])
    (hbd : ∃ p1 p2 p3 p4 p5 p6 p7 p8 p9 p10 : Pos, defBody st = [.Return (some (.Compare (.Call (.Name "repr" p1) [.Name gn p2] [] p3) [.Eq] [.Call (.Name "repr" p4) [.Name dn p5] [] p6] p7)) p8]) (hg0 : (gn == ("__debug__" : Str)) = false) (hd0 : (dn == ("__debug__" : Str)) = false) (hg1 : (gn == ("__classdict__" : Str)) = false) (hd1 : (dn == ("__classdict__" : Str)) = false)
    (hgl : (defScope st).names.lookup ("repr" : Str) = some .globalImplicit) (h1 : (defScope st).names.lookup gn = some .local) (h2 : (defScope st).names.lookup dn = some .local) : LikeH P w K mg base := by
  refine ⟨f, fd, [gn, dn], rfl, hm, F.kp, hbi, ?_⟩
  obtain ⟨p1, p2, p3, p4, p5, p6, p7, p8, _, _, eb⟩ := hbd
  obtain ⟨oc, od, kV, doc, pm, an, cdv, ct, osl, rfl, lk, hcd⟩ := F.ex
  intro A outer s H args us vs Q p hr hgd hpin e0 hb r hsp
  have hl2 : vs.length = 2 := by
    obtain ⟨x, y, _, rfl, _⟩ := hsp
    rfl
  have kept := fun b o e => (e0.bs b o e).1
  have KX : K.In s.heap := e0.mod.kin.keeps kept
  have kinds : ∀ y ∈ [gn, dn].zip us, (defScope st).names.lookup y.1 = some .local ∨ ((defScope st).names.lookup y.1 = some .cell ∧ ((cellsFrom (s.heap.objs.size + 1) (defScope st).names []).lookup y.1).isSome = true) := by
    rintro ⟨nm, v⟩ hy
    rcases S.par nm (List.of_mem_zip hy).1 with q | q
    · exact .inl q
    · exact .inr ⟨q, PySem.W.cellsFrom_some _ _ _ (.inl q)⟩
  refine codeAny_call_function hr.depth (KX _ _ lk) rfl S.co S.gen rfl (PySem.W.codeRec_of KX hcd) (hb _ _ _ _ ?_)
  refine wpAny_newFunctionEnv_cells S.kind kinds fun env he s1 xx => ?_
  subst he
  refine ⟨(e0.mod.nolimit.keeps kept).keeps xx.toInCall.keep, codeAny_func ?_⟩
  obtain ⟨x, y, d, rfl, px, py, hk, hq⟩ := hsp
  have I : Inv (L2H.cxH CX0 P w K mg base [gn, dn] "_law_like" (defScope st) f cdv A outer s H E0 p) [] (L2.start [gn, dn] [x, y]) H s1 := L2H.inv_startH S hpin e0 rfl r xx
  have hu : A.units + 3 + 200 < cLine := by
    have := hr.un
    omega
  obtain ⟨t, body, hwt⟩ : ∃ t, PSs (L2H.cxH CX0 P w K mg base [gn, dn] "_law_like" (defScope st) f cdv A outer s H E0 p).nox (defBody st) t ∧ t { nx := fun _ H' => Q .non H', rt := Q } (L2.start [gn, dn] [x, y]) H := by
    rw [eb]
    refine ⟨_, pss_one (ps_ret (pe_cmpR op_eq (pe_callB (c_repr hgd hu) (by exact hgl) mr (by decide +kernel) (pa_cons (pe_var (i := 0) rfl (.inl h1) hg0 hg1) pa_nil)) (pe_callB (c_repr hgd hu) (by exact hgl) mr (by decide +kernel) (pa_cons (pe_var (i := 1) rfl (.inl h2) hd0 hd1) pa_nil)) (nomark _))), ?_⟩
    refine ⟨x, rfl, x, d, rfl, px, hk, y, rfl, y, d, rfl, py, hk, rfl, ?_⟩
    rw [decide_eq_true (rfl : V.str d.shown = V.str d.shown)]
    exact hq
  refine wpAny_mono (body.nox.run [] s1 (L2.start [gn, dn] [x, y]) H _ I hwt) (fun fl s2 hs => ?_) fun _ _ hs => hs
  cases fl with
  | ret u =>
    obtain ⟨v, σ2, H2, J, rv, q⟩ := hs
    exact ⟨v, H2, J.os, J.bare, J.base, J.hok, rv, q⟩
  | next =>
    obtain ⟨σ2, H2, J, q⟩ := hs
    exact ⟨.non, H2, J.os, J.bare, J.base, J.hok, rfl, q⟩
  | brk =>
    obtain ⟨_, _, _, q⟩ := hs
    exact q.elim
  | cont =>
    obtain ⟨_, _, _, q⟩ := hs
    exact q.elim
def tLk (K : PySem.W.Frag) (t : TA) : TE := fun σ H Q => t σ H fun vs H1 => spLk K vs H1 Q
theorem pe_likeH {X : Cx} {a : Addr} {oe : Obj} {pn : List (Addr × Obj)} {e : Expr} {es : List Expr} {t : TA} {p pos : Pos} (F : LikeH X.prog X.w X.K X.mg X.base) (hr : L2H.RoomH 1 (X.A.mark (some (.ref a)))) (hgd : X.A.guards = some []) (hg : Gl X "_law_like")
    (ha : PA (X.suite a ((a, oe) :: pn)) (e :: es) t) (he : starEach (e :: es) X.env = (false, eval e X.env) :: starEach es X.env := by rfl) (hpl : (backTo pos (starEach es X.env)).any (·.1) = false := by rfl) :
    PE (X.suite a ((a, oe) :: pn)) (.Call (.Name "_law_like" p) (e :: es) [] pos) (tLk X.K t) := by
  obtain ⟨f, fd, ps, hp2, hm, hk, hb, run⟩ := F.ex
  refine ⟨fun pins s σ H Q I h => ?_⟩
  refine wpAny_Call_Name_kw (ld_glob I hg hm ?_ (by decide))
  refine PySem.W.callWith_K (h₀ := X.base) I.ok.mod.kin hk (thn (ha.run pos pins s σ H _ I h) fun us s1 ⟨vs, H1, I1, r, q⟩ => ⟨I1.kIn, ?_⟩) he hpl
  have hv : vs.length = 2 := by
    obtain ⟨_, _, _, rfl, _⟩ := q
    rfl
  have hl : (us ++ []).length = ps.length := by rw [List.append_nil, ← r.length, hv, hp2]
  have bb := hb s1 us I1.kIn hl
  rw [List.append_nil] at bb
  have P1 := I1.pin (a, oe) (List.mem_append_left _ List.mem_cons_self)
  have hpin : L2H.PinOk X.stack H1 s1 (a, oe) := ⟨P1.1, P1.2.1, fun hm => (List.mem_cons.mp (I1.stkSub a hm)).elim P1.2.2.1 P1.2.2.2.1, P1.2.2.2.2⟩
  refine wpAny_call (codeAny_mono (run _ X.stack s1 H1 ⟨us, []⟩ us vs Q (a, oe) hr hgd hpin I1.env0 bb r q) fun r s' hq => ?_)
  cases r with
  | error e => exact hq.elim
  | ok fl =>
    cases fl with
    | ret u => exact I1.after hq
    | next => exact hq.elim
    | brk => exact hq.elim
    | cont => exact hq.elim
/-! ## try: y = e; except m as n: return y is None and isinstance(n, SaidError) and _law_like(n.its thing, x) -/
noncomputable def lkRun (x : PyData) (j k : Nat) (r : List SV) (w : DS) : RS :=
  match r[j]?, r[k]? with
  | some (.val .none), some (.val d) => (match likeG [.val x, .val d] w with
    | .ok b w1 => .rt b w1
    | _ => .bad)
  | _, _ => .bad
noncomputable def sTryLk (T : List Str) (m : Str) (i j k : Nat) (fe : EM) : SM := fun r w =>
  match fe r w with
  | .ok d w1 => .nx (r.set j (.val d)) w1
  | .ex n x w1 => if (n ∈ T ∧ n = m) ∧ i < r.length ∧ i ≠ j ∧ i ≠ k then lkRun x j k r w1 else .bad
  | .bad => .bad
theorem lkRun_inv {x : PyData} {j k : Nat} {r : List SV} {w : DS} : (r[j]? = some (.val .none) ∧ r[k]? = some (.val x) ∧ okR x ∧ lkRun x j k r w = .rt (.bool true) w) ∨ lkRun x j k r w = .bad := by
  unfold lkRun
  split
  · rename_i d e1 e2
    by_cases h : x = d ∧ okR x
    · obtain ⟨rfl, h2⟩ := h
      have e : likeG [.val x, .val x] w = .ok (.bool true) w := by
        unfold likeG
        exact if_pos ⟨rfl, h2⟩
      rw [e]
      exact .inl ⟨e1, e2, h2, rfl⟩
    · have e : likeG [.val x, .val d] w = .bad := by
        unfold likeG
        exact if_neg h
      rw [e]
      exact .inr rfl
  · exact .inr rfl
def tsLk (K : PySem.W.Frag) (f : Str) (C CS : Addr) (i j k : Nat) : Addr → Value → Option Addr → TS := fun a cls d => tRet (tAndV (tIsN (tVar j)) (tAndV (tCB (rIsX C CS a cls d) (tCons (tVar i) (tCons (tC (.ref CS)) tNil))) (tLk K (tCons (tXf a cls d C f (tVar i)) (tCons (tVar k) tNil)))))
section
variable {K : PySem.W.Frag} {mg : Str → Option Value} {c : Cn} {W : XW} {T : List Str} {Y : WX} {D : Ends}
theorem red_tryLk {fe : EM} {m : Str} {i j k : Nat} {C CS : Addr} (tk : Takers K mg T m C) {σ : L2.St} {H : Hp} (h : tS ⟨mg, K, c, W⟩ (sTryLk T m i j k fe) D σ H) :
    tAsg (tD ⟨mg, K, c, xw mg K c (wCls Y D [⟨fun cls => PySem.W.exmOne K cls (.ref C), some i, tsLk K (fldOf m) C CS i j k⟩])⟩ fe) (gName j) D σ H := by
  obtain ⟨P, ow, r, w, R, h⟩ := h
  refine ⟨P, ow, r, w, R, ?_⟩
  unfold sTryLk at h
  cases e : fe r w with
  | ok d w1 =>
    rw [e] at h
    exact fun v H1 k1 R1 p1 => h _ _ _ (R1.setVal j p1)
  | bad => rw [e] at h; exact h
  | ex n x w1 =>
    rw [e] at h
    by_cases hn : (n ∈ T ∧ n = m) ∧ i < r.length ∧ i ≠ j ∧ i ≠ k
    · have h2 : gS ⟨mg, K, c, W⟩ (lkRun x j k r w1) P D := by
        have z : gS ⟨mg, K, c, W⟩ (if (n ∈ T ∧ n = m) ∧ i < r.length ∧ i ≠ j ∧ i ≠ k then lkRun x j k r w1 else .bad) P D := h
        rw [if_pos hn] at z
        exact z
      obtain ⟨⟨hT, hnm⟩, hl, hij, hik⟩ := hn
      subst hnm
      rcases lkRun_inv (x := x) (j := j) (k := k) (r := r) (w := w1) with ⟨e1, e2, hk, e3⟩ | e3
      · rw [e3] at h2
        intro H1 k1 R1 Ce d v hm hd dd
        have hC := tk.1
        have te := tk.2 n hT Ce hm
        rw [hC] at hm
        cases hm
        refine ⟨_, te, fun _ a ha => ?_, fun hb => absurd (of_decide_eq_false hb) (by simp)⟩
        have hi : (σ.set i (some (.ref a)))[i]? = some (some (.ref a)) := by rw [List.getElem?_set_self (by rw [← R1.len]; exact hl)]
        obtain ⟨vj, sj, xj, exj, pj⟩ := R1.slot j _ e1
        obtain ⟨vk, sk, xk, exk, pk⟩ := R1.slot k _ e2
        subst exj exk
        cases pj
        have hj : (σ.set i (some (.ref a)))[j]? = some (some .non) := by rw [List.getElem?_set_ne hij]; exact sj
        have hk2 : (σ.set i (some (.ref a)))[k]? = some (some xk) := by rw [List.getElem?_set_ne hik]; exact sk
        have nd := (good_facts x hk.1).2.2
        refine ⟨.non, hj, true, by simp, ?_⟩
        rw [if_pos rfl]
        refine ⟨_, hi, d, _, rfl, rfl, rfl, hd, true, rfl, ?_⟩
        rw [if_pos rfl]
        refine ⟨_, hi, rfl, rfl, d, _, v, rfl, hd, by simp [List.lookup], xk, hk2, v, xk, x, rfl, dd.dp nd, pk.dp nd, hk, ?_⟩
        exact h2 (.bl true) H1 R1.keep R1.st (.bl true)
      · rw [e3] at h2
        exact h2.elim
    · have z : gS ⟨mg, K, c, W⟩ (if (n ∈ T ∧ n = m) ∧ i < r.length ∧ i ≠ j ∧ i ≠ k then lkRun x j k r w1 else .bad) P D := h
      rw [if_neg hn] at z
      exact z.elim
end
section
variable {X : Cx} {c : Cn} {W : XW} {Y : WX} {T : List Str} {e : Expr} {fe : EM} {pos pos1 : Pos} {x y n m f : Str} {C CS : Addr} {i j k l : Nat} {px np hp q1 q2 q3 q4 q5 q6 q7 q8 q9 q10 q11 q12 q13 q14 : Pos} {jt : Nat}
theorem stTryLk (hst : X.stack = X.env :: X.outer) (hfl : X.env.frame = some X.env.locals) (tk : Takes X Y) (hW : ∀ ow n x w σ H, W ow n x w σ H → xw X.mg X.K c Y ow n x w σ H) (hN : X.N.Nodup) (hj : X.N[j]? = some x) (hx : Loc X.env.scope x)
    (he : ∀ (V : WX) (pn : List (Addr × Obj)) (xe : Value → Shared → Prop), Takes (X.tr pn xe) V → PE (X.tr pn xe) e (tD (dc (X.tr pn xe) c (xw X.mg X.K c V)) fe)) (Kt : Takers X.K X.mg T m C) (Kh : ErrH X.K X.mg m C CS) (F : LikeH X.prog X.w X.K X.mg X.base) (hr : Room l X.A) (hl : 1 ≤ l) (hgd : X.A.guards = some [])
    (ht : TstOk X (.Name m np) (fun cls => PySem.W.exmOne X.K cls (.ref C))) (hi : X.N[i]? = some n) (hln : X.env.kindOf n = some .local) (hfm : f = fldOf m) (hgI : Gl X "isinstance") (hmI : X.mg "isinstance" = none) (hgS : Gl X "SaidError") (hgL : Gl X "_law_like")
    (hvi : ∀ (a : Addr) (oe : Obj) (pn : List (Addr × Obj)) (q : Pos), PE (X.suite a ((a, oe) :: pn)) (.Name n q) (tVar i)) (hvj : ∀ (a : Addr) (oe : Obj) (pn : List (Addr × Obj)) (q : Pos), PE (X.suite a ((a, oe) :: pn)) (.Name x q) (tVar j)) (hvk : ∀ (a : Addr) (oe : Obj) (pn : List (Addr × Obj)) (q : Pos), PE (X.suite a ((a, oe) :: pn)) (.Name y q) (tVar k))
    (hb : attributeBase (.Name n q9) f X.env (eval (.Name n q9) X.env) = eval (.Name n q9) X.env := by rfl)
    (hsw : swapsWith e (some (.Name x px)) pos1.line X.env = pure false := by rfl) (hf : X.fn x = true ∨ X.env.scope.names.lookup x = some .local := by first | exact .inl rfl | exact .inr rfl) :
    PS X (.Try [.Assign [.Name x px] e pos1] [.ExceptHandler (some (.Name m np)) (some n) [.Return (some (.BoolOp .And [.Compare (.Name x q1) [.Is] [.Constant .none jt q2] q3, .Call (.Name "isinstance" q4) [.Name n q5, .Name "SaidError" q6] [] q7,
      .Call (.Name "_law_like" q8) [.Attribute (.Name n q9) f q10, .Name y q11] [] q12] q13)) q14] hp] [] [] pos) (tS (dc X c W) (sTryLk T m i j k fe)) := by
  refine PS.imp (ps_try_cl (tb := fun V => tAsg (tD (dc X c (xw X.mg X.K c V)) fe) (gName j)) hst hfl tk (fun V pn xe tk2 _ => pss_one (ps_set (X := X.tr pn xe) hN hj hx (he V pn xe tk2) hsw hf)) (ClsOk.named ht hN hi hln (ts := tsLk X.K (fldOf m) C CS i j k) (fun a oe cls d pn hz hfv => ?_) ClsOk.nil)) fun D σ H h => red_tryLk Kt h
  subst hfm
  have room : L2H.RoomH 1 (X.A.mark (some (.ref a))) := by
    refine ⟨?_, ?_⟩
    · have := hr.dp
      show X.A.depth + 3 * 1 + 5 < _
      omega
    · have := hr.un
      show X.A.units + 16 * 1 + 200 < _
      omega
  exact pss_one (ps_ret (pe_and (pe_cmp (pc_isN (hvj a oe pn q1))) (pe_and (pe_callB (call_isX Kh hz hfv) hgI hmI (by decide +kernel) (pa_cons (hvi a oe pn q5) (pa_cons (pe_glob (v := .ref CS) hgS Kh.gS rfl) pa_nil)))
    (pe_one (pe_likeH F room hgd hgL (pa_cons (pe_xf Kh.x Kh.no hz hfv (hvi a oe pn q9) hb) (pa_cons (hvk a oe pn q11) pa_nil)))))))
end
end DL

namespace K03
open L2 PySem PySem.Spec PyProof.Rows DL
def topS (i : Nat) : Stmt := PySem.Challenge.pw_saidbetween_k03_whole_questions_of_table.main.body.getD i (.Pass ⟨0, 0, 0, 0⟩)
abbrev T_ : List Str := ["BadQuestion", "BadTable", "BadParameter"]
abbrev s_i_BadTable : Stmt := inCls (topS 3)
theorem sc_i_BadTable : FnScope ["self", "place"] ["self", "place"] (defScope s_i_BadTable) := ⟨rfl, rfl, rfl, by decide +kernel, rfl, by decide +kernel, by decide +kernel⟩
theorem err_BadTable {P : Program} {w : World} {K : PySem.W.Frag} {mg : Str → Option Value} {base : Heap} {C fI : Addr} {fd : FuncData} (hC : mg "BadTable" = some (.ref C)) (T : OexC K C) (hno : PySem.W.findIn K (.ref C) "place" = some none) (iC : PySem.W.findIn K (.ref C) "__init__" = some (some (.ref fI))) (tI : PySem.W.typeIn K (.ref fI) = some (.type "function")) (F : Fun K "__init__" "BadTable.__init__" s_i_BadTable fI fd) : ErrC P w K mg base "BadTable" := by
  have hf : fldOf "BadTable" = "place" := by decide
  refine ⟨C, fI, fd, hC, T, by rw [hf]; exact hno, iC, tI, ?_, ?_⟩
  · rw [hf]
    refine F.ok sc_i_BadTable (fun vs H Q E h => by obtain ⟨a, C2, y, rfl, _⟩ := h; rfl) fun cdv A outer s H vs Q E hr h => ⟨tOst K "place" (tVar 0) (tVar 1), pss_one (ps_ost (pv 0) (pv 1)), ?_⟩
    obtain ⟨a, C2, y, rfl, T2, hno2, ha, hq⟩ := h
    rw [hf] at hno2 hq
    exact ⟨y, rfl, .ref a, rfl, a, C2, rfl, T2, hno2, .inl ⟨ha, fun dx z1 z2 => hq dx z1 z2⟩⟩
  · rw [hf]; exact F.binds (ps := ["self", "place"]) fun _ _ _ _ _ _ us hl => match us, hl with | [_, _], _ => rfl
abbrev s_i_BadParameter : Stmt := inCls (topS 4)
theorem sc_i_BadParameter : FnScope ["self", "value"] ["self", "value"] (defScope s_i_BadParameter) := ⟨rfl, rfl, rfl, by decide +kernel, rfl, by decide +kernel, by decide +kernel⟩
theorem err_BadParameter {P : Program} {w : World} {K : PySem.W.Frag} {mg : Str → Option Value} {base : Heap} {C fI : Addr} {fd : FuncData} (hC : mg "BadParameter" = some (.ref C)) (T : OexC K C) (hno : PySem.W.findIn K (.ref C) "value" = some none) (iC : PySem.W.findIn K (.ref C) "__init__" = some (some (.ref fI))) (tI : PySem.W.typeIn K (.ref fI) = some (.type "function")) (F : Fun K "__init__" "BadParameter.__init__" s_i_BadParameter fI fd) : ErrC P w K mg base "BadParameter" := by
  have hf : fldOf "BadParameter" = "value" := by decide
  refine ⟨C, fI, fd, hC, T, by rw [hf]; exact hno, iC, tI, ?_, ?_⟩
  · rw [hf]
    refine F.ok sc_i_BadParameter (fun vs H Q E h => by obtain ⟨a, C2, y, rfl, _⟩ := h; rfl) fun cdv A outer s H vs Q E hr h => ⟨tOst K "value" (tVar 0) (tVar 1), pss_one (ps_ost (pv 0) (pv 1)), ?_⟩
    obtain ⟨a, C2, y, rfl, T2, hno2, ha, hq⟩ := h
    rw [hf] at hno2 hq
    exact ⟨y, rfl, .ref a, rfl, a, C2, rfl, T2, hno2, .inl ⟨ha, fun dx z1 z2 => hq dx z1 z2⟩⟩
  · rw [hf]; exact F.binds (ps := ["self", "value"]) fun _ _ _ _ _ _ us hl => match us, hl with | [_, _], _ => rfl
structure Blts (mg : Str → Option Value) : Prop where
  enumerate_ : mg "enumerate" = none
  int_ : mg "int" = none
  isinstance_ : mg "isinstance" = none
  len_ : mg "len" = none
  list_ : mg "list" = none
  range_ : mg "range" = none
  repr_ : mg "repr" = none
  set_ : mg "set" = none
  sum_ : mg "sum" = none
  tuple_ : mg "tuple" = none
  type_ : mg "type" = none
abbrev s_p_is_integer : Stmt := topS 7
theorem sc_p_is_integer : FnScope ["thing", "low", "high"] ["thing", "low", "high"] (defScope s_p_is_integer) := ⟨rfl, rfl, rfl, by decide +kernel, rfl, by decide +kernel, by decide +kernel⟩
noncomputable def b_p_is_integer : SM := (sRet (eAnd (eTyIs "int" (eV 0)) (eChain leD leD (eV 1) (eV 0) (eV 2))))
noncomputable def g_p_is_integer : FM := fnD 3 b_p_is_integer
theorem ok_p_is_integer {P : Program} {w : World} {K : PySem.W.Frag} {mg : Str → Option Value} {base : Heap} {f : Addr} {fd : FuncData} (F : Fun K "is_integer" "is_integer" s_p_is_integer f fd) (m : mg "is_integer" = some (.ref f)) (B : Blts mg) : CalD P w K mg base 1 "is_integer" s_p_is_integer ["thing", "low", "high"] 3 g_p_is_integer := by
  refine calD F (fnD_ok (N := ["thing", "low", "high"]) F sc_p_is_integer (by decide) fun cdv A outer s H E c hr hgd => ?_) m (F.binds (ps := ["thing", "low", "high"]) fun _ _ _ _ _ _ us hl => match us, hl with | [_, _, _], _ => rfl)
  have nd := sc_p_is_integer.nd
  exact (ssOne (stRet (dAnd (dTyIs (by rfl) B.type_ (by decide +kernel) (by decide) (by decide) (by rfl) B.int_ (by decide +kernel) (by decide) (by decide) (dV 0 (pv 0))) (dOne (dChain (o_le hr.units0) (o_le hr.units0) (dV 1 (pv 1)) (dV 0 (pv 0)) (dV 2 (pv 2)))))))
abbrev s_p_is_tuple : Stmt := topS 8
theorem sc_p_is_tuple : FnScope ["thing", "count"] ["thing", "count"] (defScope s_p_is_tuple) := ⟨rfl, rfl, rfl, by decide +kernel, rfl, by decide +kernel, by decide +kernel⟩
noncomputable def b_p_is_tuple : SM := (sRet (eAnd (eTyIs "tuple" (eV 0)) (eBin eqD (eCall lenD (lCons (eV 0) lNil)) (eV 1))))
noncomputable def g_p_is_tuple : FM := fnD 2 b_p_is_tuple
theorem ok_p_is_tuple {P : Program} {w : World} {K : PySem.W.Frag} {mg : Str → Option Value} {base : Heap} {f : Addr} {fd : FuncData} (F : Fun K "is_tuple" "is_tuple" s_p_is_tuple f fd) (m : mg "is_tuple" = some (.ref f)) (B : Blts mg) : CalD P w K mg base 1 "is_tuple" s_p_is_tuple ["thing", "count"] 2 g_p_is_tuple := by
  refine calD F (fnD_ok (N := ["thing", "count"]) F sc_p_is_tuple (by decide) fun cdv A outer s H E c hr hgd => ?_) m (F.binds (ps := ["thing", "count"]) fun _ _ _ _ _ _ us hl => match us, hl with | [_, _], _ => rfl)
  have nd := sc_p_is_tuple.nd
  exact (ssOne (stRet (dAnd (dTyIs (by rfl) B.type_ (by decide +kernel) (by decide) (by decide) (by rfl) B.tuple_ (by decide +kernel) (by decide) (by decide) (dV 0 (pv 0))) (dOne (dCmp (o_eq hr.units) (dBlt c_len (by rfl) B.len_ (by decide +kernel) (aCons (dV 0 (pv 0)) aNil)) (dV 1 (pv 1)) (nomark _))))))
abbrev s_p_have_common_row : Stmt := topS 21
theorem sc_p_have_common_row : FnScope ["yes", "no"] ["yes", "no"] (defScope s_p_have_common_row) := ⟨rfl, rfl, rfl, by decide +kernel, rfl, by decide +kernel, by decide +kernel⟩
noncomputable def b_p_have_common_row : SM := (sRet (eBin gtD (eSets zAnd (fun _ _ => true) (eV 0) (eV 1)) (eC (.int 0))))
noncomputable def g_p_have_common_row : FM := fnD 2 b_p_have_common_row
theorem ok_p_have_common_row {P : Program} {w : World} {K : PySem.W.Frag} {mg : Str → Option Value} {base : Heap} {f : Addr} {fd : FuncData} (F : Fun K "have_common_row" "have_common_row" s_p_have_common_row f fd) (m : mg "have_common_row" = some (.ref f)) (B : Blts mg) : CalD P w K mg base 1 "have_common_row" s_p_have_common_row ["yes", "no"] 2 g_p_have_common_row := by
  refine calD F (fnD_ok (N := ["yes", "no"]) F sc_p_have_common_row (by decide) fun cdv A outer s H E c hr hgd => ?_) m (F.binds (ps := ["yes", "no"]) fun _ _ _ _ _ _ us hl => match us, hl with | [_, _], _ => rfl)
  have nd := sc_p_have_common_row.nd
  exact (ssOne (stRet (dCmp o_gt (dSets o_sand (fun _ _ _ => trivial) (fun _ => rfl) rfl (by rfl) B.len_ (by decide +kernel) (by decide) (by decide) (by rfl) B.set_ (by decide +kernel) (by decide) (by decide) (dV 0 (pv 0)) (dV 1 (pv 1))) dI (nomark _))))
abbrev s_p_is_so : Stmt := topS 22
theorem sc_p_is_so : FnScope ["sign", "row"] ["sign", "row"] (defScope s_p_is_so) := ⟨rfl, rfl, rfl, by decide +kernel, rfl, by decide +kernel, by decide +kernel⟩
noncomputable def b_p_is_so : SM := (sRet (eBin eqD (eBin andD (eBin shrD (eV 1) (eBin ixD (eV 0) (eC (.int 0)))) (eC (.int 1))) (eBin ixD (eV 0) (eC (.int 1)))))
noncomputable def g_p_is_so : FM := fnD 2 b_p_is_so
theorem ok_p_is_so {P : Program} {w : World} {K : PySem.W.Frag} {mg : Str → Option Value} {base : Heap} {f : Addr} {fd : FuncData} (F : Fun K "is_so" "is_so" s_p_is_so f fd) (m : mg "is_so" = some (.ref f)) (B : Blts mg) : CalD P w K mg base 1 "is_so" s_p_is_so ["sign", "row"] 2 g_p_is_so := by
  refine calD F (fnD_ok (N := ["sign", "row"]) F sc_p_is_so (by decide) fun cdv A outer s H E c hr hgd => ?_) m (F.binds (ps := ["sign", "row"]) fun _ _ _ _ _ _ us hl => match us, hl with | [_, _], _ => rfl)
  have nd := sc_p_is_so.nd
  exact (ssOne (stRet (dCmp (o_eq hr.units) (dOp o_and (dOp o_shr (dV 1 (pv 1)) (dIx (dV 0 (pv 0)) dI)) dI) (dIx (dV 0 (pv 0)) dI) (nomark _))))
abbrev s_p_rows_with : Stmt := topS 30
theorem sc_p_rows_with : FnScope ["values", "bit", "row", "value"] ["values", "bit"] (defScope s_p_rows_with) := ⟨rfl, rfl, rfl, by decide +kernel, rfl, by decide +kernel, by decide +kernel⟩
noncomputable def b_p_rows_with : SM := (sRet (eCall tupleD (lCons (eComp [2, 3] (itEn (eV 0)) (.tp [(.nm 2), (.nm 3)]) (isB (eBin eqD (eV 3) (eV 1))) (eV 2)) lNil)))
noncomputable def g_p_rows_with : FM := fnD 4 b_p_rows_with
theorem ok_p_rows_with {P : Program} {w : World} {K : PySem.W.Frag} {mg : Str → Option Value} {base : Heap} {f : Addr} {fd : FuncData} (F : Fun K "rows_with" "rows_with" s_p_rows_with f fd) (m : mg "rows_with" = some (.ref f)) (B : Blts mg) : CalD P w K mg base 1 "rows_with" s_p_rows_with ["values", "bit"] 2 g_p_rows_with := by
  refine calD F (fnD_ok (N := ["values", "bit", "row", "value"]) F sc_p_rows_with (by decide) fun cdv A outer s H E c hr hgd => ?_) m (F.binds (ps := ["values", "bit"]) fun _ _ _ _ _ _ us hl => match us, hl with | [_, _], _ => rfl)
  have nd := sc_p_rows_with.nd
  exact (ssOne (stRet (dTyp c_tuple (by rfl) B.tuple_ (by decide +kernel) (aCons (dComp rfl nd (own := [("row", 2), ("value", 3)]) (blkOk_by (N := ["values", "bit", "row", "value"]) (sc := defScope s_p_rows_with) (by decide +kernel)) (iEn (by rfl) B.enumerate_ (dV 0 (pv 0))) (by decide) (fun _ _ _ _ _ _ => (gTp rfl (gsCons (gNm 2 nd rfl (by first | exact .inl rfl | exact .inr rfl)) (gsCons (gNm 3 nd rfl (by first | exact .inl rfl | exact .inr rfl)) gsNil)))) (fun _ _ _ _ _ _ => (qOne (tCmp (o_eq hr.units) (dV 3 (pv 3)) (dV 1 (pv 1)) (nomark _)))) (fun _ _ _ _ _ _ => (dV 2 (pv 2)))) aNil))))
abbrev s_l_mixed : Stmt := topS 32
theorem sc_l_mixed : FnScope ["cell", "k"] ["cell", "k"] (defScope s_l_mixed) := ⟨rfl, rfl, rfl, by decide +kernel, rfl, by decide +kernel, by decide +kernel⟩
noncomputable def b_l_mixed : SM := (sSeq (sSet 0 (eBin modD (eCall intD (lCons (eV 0) lNil)) (eC (.int 2147483647)))) (sRet (eBin modD (eBin mulD (eBin modD (eBin addD (eBin addD (eBin mulD (eV 0) (eBin addD (eC (.int 48271)) (eBin mulD (eBin mulD (eC (.int 2)) (eV 1)) (eV 1)))) (eBin mulD (eC (.int 69621)) (eV 1))) (eC (.int 11))) (eC (.int 2147483647))) (eC (.int 69621))) (eC (.int 2147483629)))))
noncomputable def g_l_mixed : FM := fnD 2 b_l_mixed
theorem ok_l_mixed {P : Program} {w : World} {K : PySem.W.Frag} {mg : Str → Option Value} {base : Heap} {f : Addr} {fd : FuncData} (F : Fun K "_law_mixed" "_law_mixed" s_l_mixed f fd) (m : mg "_law_mixed" = some (.ref f)) (B : Blts mg) : CalD P w K mg base 1 "_law_mixed" s_l_mixed ["cell", "k"] 2 g_l_mixed := by
  refine calD F (fnD_ok (N := ["cell", "k"]) F sc_l_mixed (by decide) fun cdv A outer s H E c hr hgd => ?_) m (F.binds (ps := ["cell", "k"]) fun _ _ _ _ _ _ us hl => match us, hl with | [_, _], _ => rfl)
  have nd := sc_l_mixed.nd
  exact (ssCons (stSet 0 nd rfl (by first | exact .inl rfl | exact .inr rfl) (dOp o_mod (dTyp c_int (by rfl) B.int_ (by decide +kernel) (aCons (dV 0 (pv 0)) aNil)) dI))
    (ssOne (stRet (dOp o_mod (dOp o_mul (dOp o_mod (dOp o_add (dOp o_add (dOp o_mul (dV 0 (pv 0)) (dOp o_add dI (dOp o_mul (dOp o_mul dI (dV 1 (pv 1))) (dV 1 (pv 1))))) (dOp o_mul dI (dV 1 (pv 1)))) dI) dI) dI) dI))))
abbrev s_l_power : Stmt := topS 35
theorem sc_l_power : FnScope ["count", "found", "step"] ["count"] (defScope s_l_power) := ⟨rfl, rfl, rfl, by decide +kernel, rfl, by decide +kernel, by decide +kernel⟩
noncomputable def b_l_power : SM := (sSeq (sSet 1 (eC (.int 1))) (sSeq (sFor (.nm 2) (itRg1 (eV 0)) (sSet 1 (eBin addD (eV 1) (eV 1)))) (sRet (eV 1))))
noncomputable def g_l_power : FM := fnD 3 b_l_power
theorem ok_l_power {P : Program} {w : World} {K : PySem.W.Frag} {mg : Str → Option Value} {base : Heap} {f : Addr} {fd : FuncData} (F : Fun K "_law_power" "_law_power" s_l_power f fd) (m : mg "_law_power" = some (.ref f)) (B : Blts mg) : CalD P w K mg base 1 "_law_power" s_l_power ["count"] 1 g_l_power := by
  refine calD F (fnD_ok (N := ["count", "found", "step"]) F sc_l_power (by decide) fun cdv A outer s H E c hr hgd => ?_) m (F.binds (ps := ["count"]) fun _ _ _ _ _ _ us hl => match us, hl with | [_], _ => rfl)
  have nd := sc_l_power.nd
  exact (ssCons (stSet 1 nd rfl (by first | exact .inl rfl | exact .inr rfl) dI)
    (ssCons (stFor PassesOwn.never rfl (iRg1 (by rfl) B.range_ (dV 0 (pv 0))) (gNm 2 nd rfl (by first | exact .inl rfl | exact .inr rfl)) (ssOne (stSet 1 nd rfl (by first | exact .inl rfl | exact .inr rfl) (dOp o_add (dV 1 (pv 1)) (dV 1 (pv 1))))))
    (ssOne (stRet (dV 1 (pv 1))))))
abbrev s_l_rises : Stmt := topS 37
theorem sc_l_rises : FnScope ["worths", "line", "mark", "over", "above", "other"] ["worths"] (defScope s_l_rises) := ⟨rfl, rfl, rfl, by decide +kernel, rfl, by decide +kernel, by decide +kernel⟩
noncomputable def b_l_rises : SM := (sSeq (sFor (.tp [(.nm 1), (.nm 2)]) (itEn (eV 0)) (sSeq (sSet 3 (eComp [4, 5] (itEn (eV 0)) (.tp [(.nm 4), (.nm 5)]) (isB (eBin eqD (eBin andD (eV 4) (eV 1)) (eV 1))) (eV 5))) (sIf (tyAnd (isB (eBin eqD (eV 2) (eC (.int 1)))) (isB (eBin inG (eC (.int 0)) (eV 3)))) (sRet (eC (.bool false))) sPass))) (sRet (eC (.bool true))))
noncomputable def g_l_rises : FM := fnD 6 b_l_rises
theorem ok_l_rises {P : Program} {w : World} {K : PySem.W.Frag} {mg : Str → Option Value} {base : Heap} {f : Addr} {fd : FuncData} (F : Fun K "_law_rises" "_law_rises" s_l_rises f fd) (m : mg "_law_rises" = some (.ref f)) (B : Blts mg) : CalD P w K mg base 1 "_law_rises" s_l_rises ["worths"] 1 g_l_rises := by
  refine calD F (fnD_ok (N := ["worths", "line", "mark", "over", "above", "other"]) F sc_l_rises (by decide) fun cdv A outer s H E c hr hgd => ?_) m (F.binds (ps := ["worths"]) fun _ _ _ _ _ _ us hl => match us, hl with | [_], _ => rfl)
  have nd := sc_l_rises.nd
  exact (ssCons (stFor PassesOwn.never rfl (iEn (by rfl) B.enumerate_ (dV 0 (pv 0))) (gTp rfl (gsCons (gNm 1 nd rfl (by first | exact .inl rfl | exact .inr rfl)) (gsCons (gNm 2 nd rfl (by first | exact .inl rfl | exact .inr rfl)) gsNil))) (ssCons (stComp (i := 3) rfl nd rfl rfl (by rfl) (own := [("above", 4), ("other", 5)]) (blkOk_by (N := ["worths", "line", "mark", "over", "above", "other"]) (sc := defScope s_l_rises) (by decide +kernel)) (iEn (by rfl) B.enumerate_ (dV 0 (pv 0))) (by decide) (fun _ _ _ _ _ _ => (gTp rfl (gsCons (gNm 4 nd rfl (by first | exact .inl rfl | exact .inr rfl)) (gsCons (gNm 5 nd rfl (by first | exact .inl rfl | exact .inr rfl)) gsNil)))) (fun _ _ _ _ _ _ => (qOne (tCmp (o_eq hr.units) (dOp o_and (dV 4 (pv 4)) (dV 1 (pv 1))) (dV 1 (pv 1)) (nomark _)))) (fun _ _ _ _ _ _ => (dV 5 (pv 5))))
    (ssOne (stIf (PW.pt (tAndC (tCmp (o_eq hr.units) (dV 2 (pv 2)) dI (nomark _)) (tAnd1 (tCmp (o_inG hr.units) dI (dV 3 (pv 3)) (by rfl))))) (ssOne (stRet dBl)) ssNil))))
    (ssOne (stRet dBl)))
abbrev s_l_like : Stmt := topS 38
noncomputable abbrev g_l_like : FM := likeG
abbrev s_p_is_many : Stmt := topS 9
theorem sc_p_is_many : FnScope ["thing"] ["thing"] (defScope s_p_is_many) := ⟨rfl, rfl, rfl, by decide +kernel, rfl, by decide +kernel, by decide +kernel⟩
noncomputable def b_p_is_many : SM := (sRet (eFn g_p_is_integer (aCs (vD (eV 0)) (aCs (vD (eC (.int 1))) (aCs (vD (eC (.int 8))) aNl)))))
noncomputable def g_p_is_many : FM := fnD 1 b_p_is_many
theorem ok_p_is_many {P : Program} {w : World} {K : PySem.W.Frag} {mg : Str → Option Value} {base : Heap} {f : Addr} {fd : FuncData} (F : Fun K "is_many" "is_many" s_p_is_many f fd) (m : mg "is_many" = some (.ref f)) (B : Blts mg) (C_p_is_integer : CalD P w K mg base 1 "is_integer" s_p_is_integer ["thing", "low", "high"] 3 g_p_is_integer) {u_MOST_BITS : Value} (q_MOST_BITS : mg "MOST_BITS" = some u_MOST_BITS ∧ RelV (.int 8) u_MOST_BITS) : CalD P w K mg base 2 "is_many" s_p_is_many ["thing"] 1 g_p_is_many := by
  refine calD F (fnD_ok (N := ["thing"]) F sc_p_is_many (by decide) fun cdv A outer s H E c hr hgd => ?_) m (F.binds (ps := ["thing"]) fun _ _ _ _ _ _ us hl => match us, hl with | [_], _ => rfl)
  have nd := sc_p_is_many.nd
  exact (ssOne (stRet (dFc C_p_is_integer (hr.mono (by omega)) hgd (by rfl) (avCons (vVal (dV 0 (pv 0))) (avCons (vVal dI) (avCons (vVal (dGn (by rfl) q_MOST_BITS.1 q_MOST_BITS.2)) avNil))) (ArN.cons (ArN.cons (ArN.cons ArN.nil))))))
abbrev s_p_is_sign : Stmt := topS 10
theorem sc_p_is_sign : FnScope ["many", "thing"] ["many", "thing"] (defScope s_p_is_sign) := ⟨rfl, rfl, rfl, by decide +kernel, rfl, by decide +kernel, by decide +kernel⟩
noncomputable def b_p_is_sign : SM := (sRet (eAnd (eFn g_p_is_tuple (aCs (vD (eV 1)) (aCs (vD (eC (.int 2))) aNl))) (eAnd (eFn g_p_is_integer (aCs (vD (eBin ixD (eV 1) (eC (.int 0)))) (aCs (vD (eC (.int 0))) (aCs (vD (eBin subD (eV 0) (eC (.int 1)))) aNl)))) (eFn g_p_is_integer (aCs (vD (eBin ixD (eV 1) (eC (.int 1)))) (aCs (vD (eC (.int 0))) (aCs (vD (eC (.int 1))) aNl)))))))
noncomputable def g_p_is_sign : FM := fnD 2 b_p_is_sign
theorem ok_p_is_sign {P : Program} {w : World} {K : PySem.W.Frag} {mg : Str → Option Value} {base : Heap} {f : Addr} {fd : FuncData} (F : Fun K "is_sign" "is_sign" s_p_is_sign f fd) (m : mg "is_sign" = some (.ref f)) (B : Blts mg) (C_p_is_tuple : CalD P w K mg base 1 "is_tuple" s_p_is_tuple ["thing", "count"] 2 g_p_is_tuple) (C_p_is_integer : CalD P w K mg base 1 "is_integer" s_p_is_integer ["thing", "low", "high"] 3 g_p_is_integer) : CalD P w K mg base 2 "is_sign" s_p_is_sign ["many", "thing"] 2 g_p_is_sign := by
  refine calD F (fnD_ok (N := ["many", "thing"]) F sc_p_is_sign (by decide) fun cdv A outer s H E c hr hgd => ?_) m (F.binds (ps := ["many", "thing"]) fun _ _ _ _ _ _ us hl => match us, hl with | [_, _], _ => rfl)
  have nd := sc_p_is_sign.nd
  exact (ssOne (stRet (dAnd (dFc C_p_is_tuple (hr.mono (by omega)) hgd (by rfl) (avCons (vVal (dV 1 (pv 1))) (avCons (vVal dI) avNil)) (ArN.cons (ArN.cons ArN.nil))) (dAnd (dFc C_p_is_integer (hr.mono (by omega)) hgd (by rfl) (avCons (vVal (dIx (dV 1 (pv 1)) dI)) (avCons (vVal dI) (avCons (vVal (dOp o_sub (dV 0 (pv 0)) dI)) avNil))) (ArN.cons (ArN.cons (ArN.cons ArN.nil)))) (dOne (dFc C_p_is_integer (hr.mono (by omega)) hgd (by rfl) (avCons (vVal (dIx (dV 1 (pv 1)) dI)) (avCons (vVal dI) (avCons (vVal dI) avNil))) (ArN.cons (ArN.cons (ArN.cons ArN.nil)))))))))
abbrev s_p_is_set_of_numbers : Stmt := topS 12
theorem sc_p_is_set_of_numbers : FnScope ["limit", "thing", "last", "number"] ["limit", "thing"] (defScope s_p_is_set_of_numbers) := ⟨rfl, rfl, rfl, by decide +kernel, rfl, by decide +kernel, by decide +kernel⟩
noncomputable def b_p_is_set_of_numbers : SM := (sSeq (sIf (isB (eTyNot "tuple" (eV 1))) (sRet (eC (.bool false))) sPass) (sSeq (sSet 2 (eUn negD (eC (.int 1)))) (sSeq (sFor (.nm 3) (itSeq (eV 1)) (sSeq (sIf (tyNot (isB (eFn g_p_is_integer (aCs (vD (eV 3)) (aCs (vD (eBin addD (eV 2) (eC (.int 1)))) (aCs (vD (eBin subD (eV 0) (eC (.int 1)))) aNl)))))) (sRet (eC (.bool false))) sPass) (sSet 2 (eV 3)))) (sRet (eC (.bool true))))))
noncomputable def g_p_is_set_of_numbers : FM := fnD 4 b_p_is_set_of_numbers
theorem ok_p_is_set_of_numbers {P : Program} {w : World} {K : PySem.W.Frag} {mg : Str → Option Value} {base : Heap} {f : Addr} {fd : FuncData} (F : Fun K "is_set_of_numbers" "is_set_of_numbers" s_p_is_set_of_numbers f fd) (m : mg "is_set_of_numbers" = some (.ref f)) (B : Blts mg) (C_p_is_integer : CalD P w K mg base 1 "is_integer" s_p_is_integer ["thing", "low", "high"] 3 g_p_is_integer) : CalD P w K mg base 2 "is_set_of_numbers" s_p_is_set_of_numbers ["limit", "thing"] 2 g_p_is_set_of_numbers := by
  refine calD F (fnD_ok (N := ["limit", "thing", "last", "number"]) F sc_p_is_set_of_numbers (by decide) fun cdv A outer s H E c hr hgd => ?_) m (F.binds (ps := ["limit", "thing"]) fun _ _ _ _ _ _ us hl => match us, hl with | [_, _], _ => rfl)
  have nd := sc_p_is_set_of_numbers.nd
  exact (ssCons (stIf (tTyNot (by rfl) B.type_ (by decide +kernel) (by decide) (by decide) (by rfl) B.tuple_ (by decide +kernel) (by decide) (by decide) (dV 1 (pv 1))) (ssOne (stRet dBl)) ssNil)
    (ssCons (stSet 2 nd rfl (by first | exact .inl rfl | exact .inr rfl) (dUn o_neg dI))
    (ssCons (stFor PassesOwn.never rfl (iSeq (dV 1 (pv 1))) (gNm 3 nd rfl (by first | exact .inl rfl | exact .inr rfl)) (ssCons (stIf (tNotC (tVal (dFc C_p_is_integer (hr.mono (by omega)) hgd (by rfl) (avCons (vVal (dV 3 (pv 3))) (avCons (vVal (dOp o_add (dV 2 (pv 2)) dI)) (avCons (vVal (dOp o_sub (dV 0 (pv 0)) dI)) avNil))) (ArN.cons (ArN.cons (ArN.cons ArN.nil)))))) (ssOne (stRet dBl)) ssNil)
    (ssOne (stSet 2 nd rfl (by first | exact .inl rfl | exact .inr rfl) (dV 3 (pv 3))))))
    (ssOne (stRet dBl)))))
abbrev s_p_first_wrong_value : Stmt := topS 17
theorem sc_p_first_wrong_value : FnScope ["values", "place", "value"] ["values"] (defScope s_p_first_wrong_value) := ⟨rfl, rfl, rfl, by decide +kernel, rfl, by decide +kernel, by decide +kernel⟩
noncomputable def b_p_first_wrong_value : SM := (sSeq (sFor (.tp [(.nm 1), (.nm 2)]) (itEn (eV 0)) (sIf (tyNot (isB (eFn g_p_is_integer (aCs (vD (eV 2)) (aCs (vD (eC (.int 0))) (aCs (vD (eC (.int 1))) aNl)))))) (sRet (eV 1)) sPass)) (sRet (eC .none)))
noncomputable def g_p_first_wrong_value : FM := fnD 3 b_p_first_wrong_value
theorem ok_p_first_wrong_value {P : Program} {w : World} {K : PySem.W.Frag} {mg : Str → Option Value} {base : Heap} {f : Addr} {fd : FuncData} (F : Fun K "first_wrong_value" "first_wrong_value" s_p_first_wrong_value f fd) (m : mg "first_wrong_value" = some (.ref f)) (B : Blts mg) (C_p_is_integer : CalD P w K mg base 1 "is_integer" s_p_is_integer ["thing", "low", "high"] 3 g_p_is_integer) : CalD P w K mg base 2 "first_wrong_value" s_p_first_wrong_value ["values"] 1 g_p_first_wrong_value := by
  refine calD F (fnD_ok (N := ["values", "place", "value"]) F sc_p_first_wrong_value (by decide) fun cdv A outer s H E c hr hgd => ?_) m (F.binds (ps := ["values"]) fun _ _ _ _ _ _ us hl => match us, hl with | [_], _ => rfl)
  have nd := sc_p_first_wrong_value.nd
  exact (ssCons (stFor PassesOwn.never rfl (iEn (by rfl) B.enumerate_ (dV 0 (pv 0))) (gTp rfl (gsCons (gNm 1 nd rfl (by first | exact .inl rfl | exact .inr rfl)) (gsCons (gNm 2 nd rfl (by first | exact .inl rfl | exact .inr rfl)) gsNil))) (ssOne (stIf (tNotC (tVal (dFc C_p_is_integer (hr.mono (by omega)) hgd (by rfl) (avCons (vVal (dV 2 (pv 2))) (avCons (vVal dI) (avCons (vVal dI) avNil))) (ArN.cons (ArN.cons (ArN.cons ArN.nil)))))) (ssOne (stRet (dV 1 (pv 1)))) ssNil)))
    (ssOne (stRet dN)))
abbrev s_p_so_of : Stmt := topS 24
theorem sc_p_so_of : FnScope ["signs", "row", "place", "sign"] ["signs", "row"] (defScope s_p_so_of) := ⟨rfl, rfl, rfl, by decide +kernel, rfl, by decide +kernel, by decide +kernel⟩
noncomputable def b_p_so_of : SM := (sRet (eCall sumD (lCons (eComp [2, 3] (itEn (eV 0)) (.tp [(.nm 2), (.nm 3)]) (isB (eFn g_p_is_so (aCs (vD (eV 3)) (aCs (vD (eV 1)) aNl)))) (eBin shlD (eC (.int 1)) (eV 2))) lNil)))
noncomputable def g_p_so_of : FM := fnD 4 b_p_so_of
theorem ok_p_so_of {P : Program} {w : World} {K : PySem.W.Frag} {mg : Str → Option Value} {base : Heap} {f : Addr} {fd : FuncData} (F : Fun K "so_of" "so_of" s_p_so_of f fd) (m : mg "so_of" = some (.ref f)) (B : Blts mg) (C_p_is_so : CalD P w K mg base 1 "is_so" s_p_is_so ["sign", "row"] 2 g_p_is_so) : CalD P w K mg base 2 "so_of" s_p_so_of ["signs", "row"] 2 g_p_so_of := by
  refine calD F (fnD_ok (N := ["signs", "row", "place", "sign"]) F sc_p_so_of (by decide) fun cdv A outer s H E c hr hgd => ?_) m (F.binds (ps := ["signs", "row"]) fun _ _ _ _ _ _ us hl => match us, hl with | [_, _], _ => rfl)
  have nd := sc_p_so_of.nd
  exact (ssOne (stRet (dBlt (c_sum rfl) (by rfl) B.sum_ (by decide +kernel) (aCons (dComp rfl nd (own := [("place", 2), ("sign", 3)]) (blkOk_by (N := ["signs", "row", "place", "sign"]) (sc := defScope s_p_so_of) (by decide +kernel)) (iEn (by rfl) B.enumerate_ (dV 0 (pv 0))) (by decide) (fun _ _ _ _ _ _ => (gTp rfl (gsCons (gNm 2 nd rfl (by first | exact .inl rfl | exact .inr rfl)) (gsCons (gNm 3 nd rfl (by first | exact .inl rfl | exact .inr rfl)) gsNil)))) (fun _ _ _ _ _ _ => (qOne (tVal (dFc C_p_is_so (hr.mono (by omega)) hgd (by rfl) (avCons (vVal (dV 3 (pv 3))) (avCons (vVal (dV 1 (pv 1))) avNil)) (ArN.cons (ArN.cons ArN.nil)))))) (fun _ _ _ _ _ _ => (dOp o_shl dI (dV 2 (pv 2))))) aNil))))
abbrev s_p_not_so_of : Stmt := topS 25
theorem sc_p_not_so_of : FnScope ["signs", "row", "place", "sign"] ["signs", "row"] (defScope s_p_not_so_of) := ⟨rfl, rfl, rfl, by decide +kernel, rfl, by decide +kernel, by decide +kernel⟩
noncomputable def b_p_not_so_of : SM := (sRet (eCall sumD (lCons (eComp [2, 3] (itEn (eV 0)) (.tp [(.nm 2), (.nm 3)]) (tyNot (isB (eFn g_p_is_so (aCs (vD (eV 3)) (aCs (vD (eV 1)) aNl))))) (eBin shlD (eC (.int 1)) (eV 2))) lNil)))
noncomputable def g_p_not_so_of : FM := fnD 4 b_p_not_so_of
theorem ok_p_not_so_of {P : Program} {w : World} {K : PySem.W.Frag} {mg : Str → Option Value} {base : Heap} {f : Addr} {fd : FuncData} (F : Fun K "not_so_of" "not_so_of" s_p_not_so_of f fd) (m : mg "not_so_of" = some (.ref f)) (B : Blts mg) (C_p_is_so : CalD P w K mg base 1 "is_so" s_p_is_so ["sign", "row"] 2 g_p_is_so) : CalD P w K mg base 2 "not_so_of" s_p_not_so_of ["signs", "row"] 2 g_p_not_so_of := by
  refine calD F (fnD_ok (N := ["signs", "row", "place", "sign"]) F sc_p_not_so_of (by decide) fun cdv A outer s H E c hr hgd => ?_) m (F.binds (ps := ["signs", "row"]) fun _ _ _ _ _ _ us hl => match us, hl with | [_, _], _ => rfl)
  have nd := sc_p_not_so_of.nd
  exact (ssOne (stRet (dBlt (c_sum rfl) (by rfl) B.sum_ (by decide +kernel) (aCons (dComp rfl nd (own := [("place", 2), ("sign", 3)]) (blkOk_by (N := ["signs", "row", "place", "sign"]) (sc := defScope s_p_not_so_of) (by decide +kernel)) (iEn (by rfl) B.enumerate_ (dV 0 (pv 0))) (by decide) (fun _ _ _ _ _ _ => (gTp rfl (gsCons (gNm 2 nd rfl (by first | exact .inl rfl | exact .inr rfl)) (gsCons (gNm 3 nd rfl (by first | exact .inl rfl | exact .inr rfl)) gsNil)))) (fun _ _ _ _ _ _ => (qOne (tNotC (tVal (dFc C_p_is_so (hr.mono (by omega)) hgd (by rfl) (avCons (vVal (dV 3 (pv 3))) (avCons (vVal (dV 1 (pv 1))) avNil)) (ArN.cons (ArN.cons ArN.nil))))))) (fun _ _ _ _ _ _ => (dOp o_shl dI (dV 2 (pv 2))))) aNil))))
abbrev s_l_draw : Stmt := topS 34
theorem sc_l_draw : FnScope ["state", "limit", "at", "spot", "left", "mixed"] ["state", "limit"] (defScope s_l_draw) := ⟨rfl, rfl, rfl, by decide +kernel, rfl, by decide +kernel, by decide +kernel⟩
noncomputable def b_l_draw : SM := (sSeq (sSet 2 (eAt 0)) (sSeq (sPutAt 0 (eBin addD (eV 2) (eC (.int 1)))) (sSeq (sSet 3 (eBin modD (eCall intD (lCons (eV 2) lNil)) (eLn 0))) (sSeq (sSet 4 (eLf 0 (eV 3))) (sSeq (sIf (isB (eBin gtD (eV 4) (eC (.int 0)))) (sSeq (sPutLf 0 (eV 3) (eBin fdivD (eV 4) (eV 1))) (sRet (eBin modD (eCall intD (lCons (eV 4) lNil)) (eV 1)))) sPass) (sSeq (sSet 5 (eFn g_l_mixed (aCs (vD (eFn g_l_mixed (aCs (vD (eCl 0 (eV 3))) (aCs (vD (eV 2)) aNl)))) (aCs (vD (eBin addD (eC (.int 40)) (eV 2))) aNl)))) (sRet (eBin modD (eBin fdivD (eCall intD (lCons (eBin addD (eBin mulD (eV 5) (eC (.int 2147483647))) (eFn g_l_mixed (aCs (vD (eV 5)) (aCs (vD (eBin addD (eC (.int 7)) (eV 2))) aNl)))) lNil)) (eC (.int 64))) (eV 1)))))))))
noncomputable def g_l_draw : FM := fnD 6 b_l_draw
theorem ok_l_draw {P : Program} {w : World} {K : PySem.W.Frag} {mg : Str → Option Value} {base : Heap} {f : Addr} {fd : FuncData} (F : Fun K "_law_draw" "_law_draw" s_l_draw f fd) (m : mg "_law_draw" = some (.ref f)) (B : Blts mg) (C_l_mixed : CalD P w K mg base 1 "_law_mixed" s_l_mixed ["cell", "k"] 2 g_l_mixed) : CalD P w K mg base 2 "_law_draw" s_l_draw ["state", "limit"] 2 g_l_draw := by
  refine calD F (fnD_ok (N := ["state", "limit", "at", "spot", "left", "mixed"]) F sc_l_draw (by decide) fun cdv A outer s H E c hr hgd => ?_) m (F.binds (ps := ["state", "limit"]) fun _ _ _ _ _ _ us hl => match us, hl with | [_, _], _ => rfl)
  have nd := sc_l_draw.nd
  exact (ssCons (stSet 2 nd rfl (by first | exact .inl rfl | exact .inr rfl) (dAt 0 (hu_of hr) (pv 0)))
    (ssCons (stPutAt 0 (hu_of hr) (pv 0) (dOp o_add (dV 2 (pv 2)) dI))
    (ssCons (stSet 3 nd rfl (by first | exact .inl rfl | exact .inr rfl) (dOp o_mod (dTyp c_int (by rfl) B.int_ (by decide +kernel) (aCons (dV 2 (pv 2)) aNil)) (dLn 0 (hu_of hr) (by rfl) B.len_ (by decide +kernel) (pv 0) (by decide) (by decide))))
    (ssCons (stSet 4 nd rfl (by first | exact .inl rfl | exact .inr rfl) (dLf 0 (hu_of hr) (pv 0) (dV 3 (pv 3))))
    (ssCons (stIf (tCmp o_gt (dV 4 (pv 4)) dI (nomark _)) (ssCons (stPutLf 0 (hu_of hr) (pv 0) (dV 3 (pv 3)) (dOp o_fdiv (dV 4 (pv 4)) (dV 1 (pv 1))))
    (ssOne (stRet (dOp o_mod (dTyp c_int (by rfl) B.int_ (by decide +kernel) (aCons (dV 4 (pv 4)) aNil)) (dV 1 (pv 1)))))) ssNil)
    (ssCons (stSet 5 nd rfl (by first | exact .inl rfl | exact .inr rfl) (dFc C_l_mixed (hr.mono (by omega)) hgd (by rfl) (avCons (vVal (dFc C_l_mixed (hr.mono (by omega)) hgd (by rfl) (avCons (vVal (dCl 0 (hu_of hr) (pv 0) (dV 3 (pv 3)))) (avCons (vVal (dV 2 (pv 2))) avNil)) (ArN.cons (ArN.cons ArN.nil)))) (avCons (vVal (dOp o_add dI (dV 2 (pv 2)))) avNil)) (ArN.cons (ArN.cons ArN.nil))))
    (ssOne (stRet (dOp o_mod (dOp o_fdiv (dTyp c_int (by rfl) B.int_ (by decide +kernel) (aCons (dOp o_add (dOp o_mul (dV 5 (pv 5)) dI) (dFc C_l_mixed (hr.mono (by omega)) hgd (by rfl) (avCons (vVal (dV 5 (pv 5))) (avCons (vVal (dOp o_add dI (dV 2 (pv 2)))) avNil)) (ArN.cons (ArN.cons ArN.nil)))) aNil)) dI) (dV 1 (pv 1)))))))))))
abbrev s_p_is_lot : Stmt := topS 11
theorem sc_p_is_lot : FnScope ["many", "thing"] ["many", "thing"] (defScope s_p_is_lot) := ⟨rfl, rfl, rfl, by decide +kernel, rfl, by decide +kernel, by decide +kernel⟩
noncomputable def b_p_is_lot : SM := (sRet (eFn g_p_is_set_of_numbers (aCs (vD (eBin shlD (eC (.int 1)) (eV 0))) (aCs (vD (eV 1)) aNl))))
noncomputable def g_p_is_lot : FM := fnD 2 b_p_is_lot
theorem ok_p_is_lot {P : Program} {w : World} {K : PySem.W.Frag} {mg : Str → Option Value} {base : Heap} {f : Addr} {fd : FuncData} (F : Fun K "is_lot" "is_lot" s_p_is_lot f fd) (m : mg "is_lot" = some (.ref f)) (B : Blts mg) (C_p_is_set_of_numbers : CalD P w K mg base 2 "is_set_of_numbers" s_p_is_set_of_numbers ["limit", "thing"] 2 g_p_is_set_of_numbers) : CalD P w K mg base 3 "is_lot" s_p_is_lot ["many", "thing"] 2 g_p_is_lot := by
  refine calD F (fnD_ok (N := ["many", "thing"]) F sc_p_is_lot (by decide) fun cdv A outer s H E c hr hgd => ?_) m (F.binds (ps := ["many", "thing"]) fun _ _ _ _ _ _ us hl => match us, hl with | [_, _], _ => rfl)
  have nd := sc_p_is_lot.nd
  exact (ssOne (stRet (dFc C_p_is_set_of_numbers (hr.mono (by omega)) hgd (by rfl) (avCons (vVal (dOp o_shl dI (dV 0 (pv 0)))) (avCons (vVal (dV 1 (pv 1))) avNil)) (ArN.cons (ArN.cons ArN.nil)))))
abbrev s_p_first_wrong_sign : Stmt := topS 13
theorem sc_p_first_wrong_sign : FnScope ["many", "signs", "last", "place", "sign"] ["many", "signs"] (defScope s_p_first_wrong_sign) := ⟨rfl, rfl, rfl, by decide +kernel, rfl, by decide +kernel, by decide +kernel⟩
noncomputable def b_p_first_wrong_sign : SM := (sSeq (sSet 2 (eTup lNil)) (sSeq (sFor (.tp [(.nm 3), (.nm 4)]) (itEn (eV 1)) (sSeq (sIf (tyOr (tyNot (isB (eFn g_p_is_sign (aCs (vD (eV 0)) (aCs (vD (eV 4)) aNl))))) (isB (eBin leD (eV 4) (eV 2)))) (sRet (eV 3)) sPass) (sSet 2 (eV 4)))) (sRet (eC .none))))
noncomputable def g_p_first_wrong_sign : FM := fnD 5 b_p_first_wrong_sign
theorem ok_p_first_wrong_sign {P : Program} {w : World} {K : PySem.W.Frag} {mg : Str → Option Value} {base : Heap} {f : Addr} {fd : FuncData} (F : Fun K "first_wrong_sign" "first_wrong_sign" s_p_first_wrong_sign f fd) (m : mg "first_wrong_sign" = some (.ref f)) (B : Blts mg) (C_p_is_sign : CalD P w K mg base 2 "is_sign" s_p_is_sign ["many", "thing"] 2 g_p_is_sign) : CalD P w K mg base 3 "first_wrong_sign" s_p_first_wrong_sign ["many", "signs"] 2 g_p_first_wrong_sign := by
  refine calD F (fnD_ok (N := ["many", "signs", "last", "place", "sign"]) F sc_p_first_wrong_sign (by decide) fun cdv A outer s H E c hr hgd => ?_) m (F.binds (ps := ["many", "signs"]) fun _ _ _ _ _ _ us hl => match us, hl with | [_, _], _ => rfl)
  have nd := sc_p_first_wrong_sign.nd
  exact (ssCons (stSet 2 nd rfl (by first | exact .inl rfl | exact .inr rfl) (dTup aNil))
    (ssCons (stFor PassesOwn.never rfl (iEn (by rfl) B.enumerate_ (dV 1 (pv 1))) (gTp rfl (gsCons (gNm 3 nd rfl (by first | exact .inl rfl | exact .inr rfl)) (gsCons (gNm 4 nd rfl (by first | exact .inl rfl | exact .inr rfl)) gsNil))) (ssCons (stIf (PW.pt (tOrC (tNotC (tVal (dFc C_p_is_sign (hr.mono (by omega)) hgd (by rfl) (avCons (vVal (dV 0 (pv 0))) (avCons (vVal (dV 4 (pv 4))) avNil)) (ArN.cons (ArN.cons ArN.nil))))) (tOr1 (tCmp (o_le hr.units0) (dV 4 (pv 4)) (dV 2 (pv 2)) (nomark _))))) (ssOne (stRet (dV 3 (pv 3)))) ssNil)
    (ssOne (stSet 2 nd rfl (by first | exact .inl rfl | exact .inr rfl) (dV 4 (pv 4))))))
    (ssOne (stRet dN))))
abbrev s_p_need_many : Stmt := topS 14
theorem sc_p_need_many : FnScope ["many"] ["many"] (defScope s_p_need_many) := ⟨rfl, rfl, rfl, by decide +kernel, rfl, by decide +kernel, by decide +kernel⟩
noncomputable def b_p_need_many : SM := (sSeq (sIf (tyNot (isB (eFn g_p_is_many (aCs (vD (eV 0)) aNl)))) (sRaise "BadParameter" (eV 0)) sPass) (sRet (eV 0)))
noncomputable def g_p_need_many : FM := fnX 1 b_p_need_many
theorem ok_p_need_many {P : Program} {w : World} {K : PySem.W.Frag} {mg : Str → Option Value} {base : Heap} {f : Addr} {fd : FuncData} (F : Fun K "need_many" "need_many" s_p_need_many f fd) (m : mg "need_many" = some (.ref f)) (B : Blts mg) (C_p_is_many : CalD P w K mg base 2 "is_many" s_p_is_many ["thing"] 1 g_p_is_many) (R_BadParameter : ErrC P w K mg base "BadParameter") : CalX P w K mg base 3 "need_many" s_p_need_many ["many"] 1 g_p_need_many := by
  refine calX F (fnX_ok (N := ["many"]) F sc_p_need_many (by decide) fun cdv A outer s H E c hr hgd => ?_) m (F.binds (ps := ["many"]) fun _ _ _ _ _ _ us hl => match us, hl with | [_], _ => rfl)
  have nd := sc_p_need_many.nd
  have tk := takes_of (X := cxOf (L2.CX P w) P w K mg base ["many"] "need_many" (defScope s_p_need_many) f cdv A outer s H E) rfl rfl rfl rfl
  exact (ssCons (stIf (tNotC (tVal (dFc C_p_is_many (hr.mono (by omega)) hgd (by rfl) (avCons (vVal (dV 0 (pv 0))) avNil) (ArN.cons ArN.nil)))) (ssOne (stRaise rfl R_BadParameter hr (by omega) tk wId (by rfl) (dV 0 (pv 0)))) ssNil)
    (ssOne (stRet (dV 0 (pv 0)))))
abbrev s_p_need_values : Stmt := topS 16
theorem sc_p_need_values : FnScope ["many", "values", "wrong"] ["many", "values"] (defScope s_p_need_values) := ⟨rfl, rfl, rfl, by decide +kernel, rfl, by decide +kernel, by decide +kernel⟩
noncomputable def b_p_need_values : SM := (sSeq (sIf (tyNot (isB (eFn g_p_is_tuple (aCs (vD (eV 1)) (aCs (vD (eBin shlD (eC (.int 1)) (eV 0))) aNl))))) (sRaise "BadTable" (eTup lNil)) sPass) (sSeq (sSet 2 (eFn g_p_first_wrong_value (aCs (vD (eV 1)) aNl))) (sSeq (sIf (isB (eBin isNotD (eV 2) (eC .none))) (sRaise "BadTable" (eTup (lCons (eV 2) lNil))) sPass) (sRet (eV 1)))))
noncomputable def g_p_need_values : FM := fnX 3 b_p_need_values
theorem ok_p_need_values {P : Program} {w : World} {K : PySem.W.Frag} {mg : Str → Option Value} {base : Heap} {f : Addr} {fd : FuncData} (F : Fun K "need_values" "need_values" s_p_need_values f fd) (m : mg "need_values" = some (.ref f)) (B : Blts mg) (C_p_first_wrong_value : CalD P w K mg base 2 "first_wrong_value" s_p_first_wrong_value ["values"] 1 g_p_first_wrong_value) (C_p_is_tuple : CalD P w K mg base 1 "is_tuple" s_p_is_tuple ["thing", "count"] 2 g_p_is_tuple) (R_BadTable : ErrC P w K mg base "BadTable") : CalX P w K mg base 3 "need_values" s_p_need_values ["many", "values"] 2 g_p_need_values := by
  refine calX F (fnX_ok (N := ["many", "values", "wrong"]) F sc_p_need_values (by decide) fun cdv A outer s H E c hr hgd => ?_) m (F.binds (ps := ["many", "values"]) fun _ _ _ _ _ _ us hl => match us, hl with | [_, _], _ => rfl)
  have nd := sc_p_need_values.nd
  have tk := takes_of (X := cxOf (L2.CX P w) P w K mg base ["many", "values", "wrong"] "need_values" (defScope s_p_need_values) f cdv A outer s H E) rfl rfl rfl rfl
  exact (ssCons (stIf (tNotC (tVal (dFc C_p_is_tuple (hr.mono (by omega)) hgd (by rfl) (avCons (vVal (dV 1 (pv 1))) (avCons (vVal (dOp o_shl dI (dV 0 (pv 0)))) avNil)) (ArN.cons (ArN.cons ArN.nil))))) (ssOne (stRaise rfl R_BadTable hr (by omega) tk wId (by rfl) (dTup aNil))) ssNil)
    (ssCons (stSet 2 nd rfl (by first | exact .inl rfl | exact .inr rfl) (dFc C_p_first_wrong_value (hr.mono (by omega)) hgd (by rfl) (avCons (vVal (dV 1 (pv 1))) avNil) (ArN.cons ArN.nil)))
    (ssCons (stIf (tCmp o_isNot (dV 2 (pv 2)) dN (nomark _)) (ssOne (stRaise rfl R_BadTable hr (by omega) tk wId (by rfl) (dTup (aCons (dV 2 (pv 2)) aNil)))) ssNil)
    (ssOne (stRet (dV 1 (pv 1)))))))
abbrev s_l_worths : Stmt := topS 36
theorem sc_l_worths : FnScope ["state", "count", "floors", "found", "line", "turn", "floor"] ["state", "count"] (defScope s_l_worths) := ⟨rfl, rfl, rfl, by decide +kernel, rfl, by decide +kernel, by decide +kernel⟩
noncomputable def b_l_worths : SM := (sSeq (sIf (isB (eBin gtD (eFn g_l_draw (aCs (vS 0) (aCs (vD (eC (.int 3))) aNl))) (eC (.int 0)))) (sRet (eCall tupleD (lCons (eComp [4] (itRg1 (eFn g_l_power (aCs (vD (eV 1)) aNl))) (.nm 4) tYesD (eFn g_l_draw (aCs (vS 0) (aCs (vD (eC (.int 2))) aNl)))) lNil))) sPass) (sSeq (sSet 2 (eComp [5] (itRg1 (eBin addD (eC (.int 1)) (eFn g_l_draw (aCs (vS 0) (aCs (vD (eC (.int 3))) aNl))))) (.nm 5) tYesD (eFn g_l_draw (aCs (vS 0) (aCs (vD (eFn g_l_power (aCs (vD (eV 1)) aNl))) aNl))))) (sSeq (sOwn 3 lNil) (sSeq (sFor (.nm 4) (itRg1 (eFn g_l_power (aCs (vD (eV 1)) aNl))) (sApp 3 (eIf (isB (eBin neD (eComp [6] (itSeq (eV 2)) (.nm 6) (isB (eBin eqD (eBin andD (eV 6) (eV 4)) (eV 6))) (eC (.int 1))) (eLst lNil))) (eC (.int 1)) (eC (.int 0))))) (sFrz 3 (sRet (eCall tupleD (lCons (eV 3) lNil))))))))
noncomputable def g_l_worths : FM := fnD 7 b_l_worths
theorem ok_l_worths {P : Program} {w : World} {K : PySem.W.Frag} {mg : Str → Option Value} {base : Heap} {f : Addr} {fd : FuncData} (F : Fun K "_law_worths" "_law_worths" s_l_worths f fd) (m : mg "_law_worths" = some (.ref f)) (B : Blts mg) (C_l_power : CalD P w K mg base 1 "_law_power" s_l_power ["count"] 1 g_l_power) (C_l_draw : CalD P w K mg base 2 "_law_draw" s_l_draw ["state", "limit"] 2 g_l_draw) : CalD P w K mg base 3 "_law_worths" s_l_worths ["state", "count"] 2 g_l_worths := by
  refine calD F (fnD_ok (N := ["state", "count", "floors", "found", "line", "turn", "floor"]) F sc_l_worths (by decide) fun cdv A outer s H E c hr hgd => ?_) m (F.binds (ps := ["state", "count"]) fun _ _ _ _ _ _ us hl => match us, hl with | [_, _], _ => rfl)
  have nd := sc_l_worths.nd
  exact (ssCons (stIf (tCmp o_gt (dFc C_l_draw (hr.mono (by omega)) hgd (by rfl) (avCons (vSl 0 (pv 0)) (avCons (vVal dI) avNil)) (ArN.cons (ArN.cons ArN.nil))) dI (nomark _)) (ssOne (stRet (dTyp c_tuple (by rfl) B.tuple_ (by decide +kernel) (aCons (dComp rfl nd (own := [("line", 4)]) (blkOk_by (N := ["state", "count", "floors", "found", "line", "turn", "floor"]) (sc := defScope s_l_worths) (by decide +kernel)) (iRg1 (by rfl) B.range_ (dFc C_l_power (hr.mono (by omega)) hgd (by rfl) (avCons (vVal (dV 1 (pv 1))) avNil) (ArN.cons ArN.nil))) (by decide) (fun _ _ _ _ _ _ => (gNm 4 nd rfl (by first | exact .inl rfl | exact .inr rfl))) (fun _ _ _ _ _ _ => qNil) (fun _ _ _ _ _ _ => (dFc C_l_draw (hr.mono (by omega)) hgd (by rfl) (avCons (vSl 0 (pv 0)) (avCons (vVal dI) avNil)) (ArN.cons (ArN.cons ArN.nil))))) aNil)))) ssNil)
    (ssCons (stComp (i := 2) rfl nd rfl rfl (by rfl) (own := [("turn", 5)]) (blkOk_by (N := ["state", "count", "floors", "found", "line", "turn", "floor"]) (sc := defScope s_l_worths) (by decide +kernel)) (iRg1 (by rfl) B.range_ (dOp o_add dI (dFc C_l_draw (hr.mono (by omega)) hgd (by rfl) (avCons (vSl 0 (pv 0)) (avCons (vVal dI) avNil)) (ArN.cons (ArN.cons ArN.nil))))) (by decide) (fun _ _ _ _ _ _ => (gNm 5 nd rfl (by first | exact .inl rfl | exact .inr rfl))) (fun _ _ _ _ _ _ => qNil) (fun _ _ _ _ _ _ => (dFc C_l_draw (hr.mono (by omega)) hgd (by rfl) (avCons (vSl 0 (pv 0)) (avCons (vVal (dFc C_l_power (hr.mono (by omega)) hgd (by rfl) (avCons (vVal (dV 1 (pv 1))) avNil) (ArN.cons ArN.nil))) avNil)) (ArN.cons (ArN.cons ArN.nil)))))
    (ssCons (stOwn 3 nd rfl (by first | exact .inl rfl | exact .inr rfl) (frLst aNil))
    (ssCons (stFor PassesOwn.never rfl (iRg1 (by rfl) B.range_ (dFc C_l_power (hr.mono (by omega)) hgd (by rfl) (avCons (vVal (dV 1 (pv 1))) avNil) (ArN.cons ArN.nil))) (gNm 4 nd rfl (by first | exact .inl rfl | exact .inr rfl)) (ssOne (stApp 3 (pv 3) (dIf (tCmp (o_ne hr.units) (dComp rfl nd (own := [("floor", 6)]) (blkOk_by (N := ["state", "count", "floors", "found", "line", "turn", "floor"]) (sc := defScope s_l_worths) (by decide +kernel)) (iSeq (dV 2 (pv 2))) (by decide) (fun _ _ _ _ _ _ => (gNm 6 nd rfl (by first | exact .inl rfl | exact .inr rfl))) (fun _ _ _ _ _ _ => (qOne (tCmp (o_eq hr.units) (dOp o_and (dV 6 (pv 6)) (dV 4 (pv 4))) (dV 6 (pv 6)) (nomark _)))) (fun _ _ _ _ _ _ => dI)) (dLst aNil) (nomark _)) dI dI))))
    (ssFrz 3 (ssOne (stRet (dTyp c_tuple (by rfl) B.tuple_ (by decide +kernel) (aCons (dV 3 (pv 3)) aNil)))))))))
abbrev s_p_need_signs : Stmt := topS 15
theorem sc_p_need_signs : FnScope ["many", "signs"] ["many", "signs"] (defScope s_p_need_signs) := ⟨rfl, rfl, rfl, by decide +kernel, rfl, by decide +kernel, by decide +kernel⟩
noncomputable def b_p_need_signs : SM := (sSeq (sIf (tyOr (isB (eTyNot "tuple" (eV 1))) (isB (eBin isNotD (eFn g_p_first_wrong_sign (aCs (vD (eV 0)) (aCs (vD (eV 1)) aNl))) (eC .none)))) (sRaise "BadParameter" (eV 1)) sPass) (sRet (eV 1)))
noncomputable def g_p_need_signs : FM := fnX 2 b_p_need_signs
theorem ok_p_need_signs {P : Program} {w : World} {K : PySem.W.Frag} {mg : Str → Option Value} {base : Heap} {f : Addr} {fd : FuncData} (F : Fun K "need_signs" "need_signs" s_p_need_signs f fd) (m : mg "need_signs" = some (.ref f)) (B : Blts mg) (C_p_first_wrong_sign : CalD P w K mg base 3 "first_wrong_sign" s_p_first_wrong_sign ["many", "signs"] 2 g_p_first_wrong_sign) (R_BadParameter : ErrC P w K mg base "BadParameter") : CalX P w K mg base 4 "need_signs" s_p_need_signs ["many", "signs"] 2 g_p_need_signs := by
  refine calX F (fnX_ok (N := ["many", "signs"]) F sc_p_need_signs (by decide) fun cdv A outer s H E c hr hgd => ?_) m (F.binds (ps := ["many", "signs"]) fun _ _ _ _ _ _ us hl => match us, hl with | [_, _], _ => rfl)
  have nd := sc_p_need_signs.nd
  have tk := takes_of (X := cxOf (L2.CX P w) P w K mg base ["many", "signs"] "need_signs" (defScope s_p_need_signs) f cdv A outer s H E) rfl rfl rfl rfl
  exact (ssCons (stIf (PW.pt (tOrC (tTyNot (by rfl) B.type_ (by decide +kernel) (by decide) (by decide) (by rfl) B.tuple_ (by decide +kernel) (by decide) (by decide) (dV 1 (pv 1))) (tOr1 (tCmp o_isNot (dFc C_p_first_wrong_sign (hr.mono (by omega)) hgd (by rfl) (avCons (vVal (dV 0 (pv 0))) (avCons (vVal (dV 1 (pv 1))) avNil)) (ArN.cons (ArN.cons ArN.nil))) dN (nomark _))))) (ssOne (stRaise rfl R_BadParameter hr (by omega) tk wId (by rfl) (dV 1 (pv 1)))) ssNil)
    (ssOne (stRet (dV 1 (pv 1)))))
abbrev s_p_is_full_lot : Stmt := topS 20
theorem sc_p_is_full_lot : FnScope ["many", "thing"] ["many", "thing"] (defScope s_p_is_full_lot) := ⟨rfl, rfl, rfl, by decide +kernel, rfl, by decide +kernel, by decide +kernel⟩
noncomputable def b_p_is_full_lot : SM := (sRet (eAnd (eFn g_p_is_lot (aCs (vD (eV 0)) (aCs (vD (eV 1)) aNl))) (eBin gtD (eCall lenD (lCons (eV 1) lNil)) (eC (.int 0)))))
noncomputable def g_p_is_full_lot : FM := fnD 2 b_p_is_full_lot
theorem ok_p_is_full_lot {P : Program} {w : World} {K : PySem.W.Frag} {mg : Str → Option Value} {base : Heap} {f : Addr} {fd : FuncData} (F : Fun K "is_full_lot" "is_full_lot" s_p_is_full_lot f fd) (m : mg "is_full_lot" = some (.ref f)) (B : Blts mg) (C_p_is_lot : CalD P w K mg base 3 "is_lot" s_p_is_lot ["many", "thing"] 2 g_p_is_lot) : CalD P w K mg base 4 "is_full_lot" s_p_is_full_lot ["many", "thing"] 2 g_p_is_full_lot := by
  refine calD F (fnD_ok (N := ["many", "thing"]) F sc_p_is_full_lot (by decide) fun cdv A outer s H E c hr hgd => ?_) m (F.binds (ps := ["many", "thing"]) fun _ _ _ _ _ _ us hl => match us, hl with | [_, _], _ => rfl)
  have nd := sc_p_is_full_lot.nd
  exact (ssOne (stRet (dAnd (dFc C_p_is_lot (hr.mono (by omega)) hgd (by rfl) (avCons (vVal (dV 0 (pv 0))) (avCons (vVal (dV 1 (pv 1))) avNil)) (ArN.cons (ArN.cons ArN.nil))) (dOne (dCmp o_gt (dBlt c_len (by rfl) B.len_ (by decide +kernel) (aCons (dV 1 (pv 1)) aNil)) dI (nomark _))))))
abbrev s_p_rising_signs : Stmt := topS 27
theorem sc_p_rising_signs : FnScope ["many", "place"] ["many"] (defScope s_p_rising_signs) := ⟨rfl, rfl, rfl, by decide +kernel, rfl, by decide +kernel, by decide +kernel⟩
noncomputable def b_p_rising_signs : SM := (sSeq (sDrop (eFn g_p_need_many (aCs (vD (eV 0)) aNl))) (sRet (eCall tupleD (lCons (eComp [1] (itRg1 (eV 0)) (.nm 1) tYesD (eTup (lCons (eV 1) (lCons (eC (.int 1)) lNil)))) lNil))))
noncomputable def g_p_rising_signs : FM := fnD 2 b_p_rising_signs
theorem ok_p_rising_signs {P : Program} {w : World} {K : PySem.W.Frag} {mg : Str → Option Value} {base : Heap} {f : Addr} {fd : FuncData} (F : Fun K "rising_signs" "rising_signs" s_p_rising_signs f fd) (m : mg "rising_signs" = some (.ref f)) (B : Blts mg) (C_p_need_many : CalD P w K mg base 3 "need_many" s_p_need_many ["many"] 1 g_p_need_many) : CalD P w K mg base 4 "rising_signs" s_p_rising_signs ["many"] 1 g_p_rising_signs := by
  refine calD F (fnD_ok (N := ["many", "place"]) F sc_p_rising_signs (by decide) fun cdv A outer s H E c hr hgd => ?_) m (F.binds (ps := ["many"]) fun _ _ _ _ _ _ us hl => match us, hl with | [_], _ => rfl)
  have nd := sc_p_rising_signs.nd
  exact (ssCons (stDrop (dFc C_p_need_many (hr.mono (by omega)) hgd (by rfl) (avCons (vVal (dV 0 (pv 0))) avNil) (ArN.cons ArN.nil)))
    (ssOne (stRet (dTyp c_tuple (by rfl) B.tuple_ (by decide +kernel) (aCons (dComp rfl nd (own := [("place", 1)]) (blkOk_by (N := ["many", "place"]) (sc := defScope s_p_rising_signs) (by decide +kernel)) (iRg1 (by rfl) B.range_ (dV 0 (pv 0))) (by decide) (fun _ _ _ _ _ _ => (gNm 1 nd rfl (by first | exact .inl rfl | exact .inr rfl))) (fun _ _ _ _ _ _ => qNil) (fun _ _ _ _ _ _ => (dTup (aCons (dV 1 (pv 1)) (aCons dI aNil))))) aNil)))))
abbrev s_p_all_signs : Stmt := topS 28
theorem sc_p_all_signs : FnScope ["many", "place", "bit"] ["many"] (defScope s_p_all_signs) := ⟨rfl, rfl, rfl, by decide +kernel, rfl, by decide +kernel, by decide +kernel⟩
noncomputable def b_p_all_signs : SM := (sSeq (sDrop (eFn g_p_need_many (aCs (vD (eV 0)) aNl))) (sRet (eCall tupleD (lCons (eComp2 [1, 2] [2] (itRg1 (eV 0)) (.nm 1) (itRg1 (eC (.int 2))) (.nm 2) (eTup (lCons (eV 1) (lCons (eV 2) lNil)))) lNil))))
noncomputable def g_p_all_signs : FM := fnD 3 b_p_all_signs
theorem ok_p_all_signs {P : Program} {w : World} {K : PySem.W.Frag} {mg : Str → Option Value} {base : Heap} {f : Addr} {fd : FuncData} (F : Fun K "all_signs" "all_signs" s_p_all_signs f fd) (m : mg "all_signs" = some (.ref f)) (B : Blts mg) (C_p_need_many : CalD P w K mg base 3 "need_many" s_p_need_many ["many"] 1 g_p_need_many) : CalD P w K mg base 4 "all_signs" s_p_all_signs ["many"] 1 g_p_all_signs := by
  refine calD F (fnD_ok (N := ["many", "place", "bit"]) F sc_p_all_signs (by decide) fun cdv A outer s H E c hr hgd => ?_) m (F.binds (ps := ["many"]) fun _ _ _ _ _ _ us hl => match us, hl with | [_], _ => rfl)
  have nd := sc_p_all_signs.nd
  exact (ssCons (stDrop (dFc C_p_need_many (hr.mono (by omega)) hgd (by rfl) (avCons (vVal (dV 0 (pv 0))) avNil) (ArN.cons ArN.nil)))
    (ssOne (stRet (dTyp c_tuple (by rfl) B.tuple_ (by decide +kernel) (aCons (dComp2 rfl nd (own := [("place", 1), ("bit", 2)]) (vs1 := [2]) (blkOk_by (N := ["many", "place", "bit"]) (sc := defScope s_p_all_signs) (by decide +kernel)) (by decide) (iRg1 (by rfl) B.range_ (dV 0 (pv 0))) (by decide) (by decide) (fun _ _ _ _ _ _ => (gNm 1 nd rfl (by first | exact .inl rfl | exact .inr rfl))) (fun _ _ _ _ _ _ => (iRg1 (by rfl) B.range_ dI)) (fun _ _ _ _ _ _ => (gNm 2 nd rfl (by first | exact .inl rfl | exact .inr rfl))) (fun _ _ _ _ _ _ => (dTup (aCons (dV 1 (pv 1)) (aCons (dV 2 (pv 2)) aNil))))) aNil)))))
abbrev s_p_need_question : Stmt := topS 19
theorem sc_p_need_question : FnScope ["question", "many", "signs", "yes", "no", "wrong"] ["question"] (defScope s_p_need_question) := ⟨rfl, rfl, rfl, by decide +kernel, rfl, by decide +kernel, by decide +kernel⟩
noncomputable def b_p_need_question : SM := (sSeq (sIf (tyNot (isB (eFn g_p_is_tuple (aCs (vD (eV 0)) (aCs (vD (eC (.int 4))) aNl))))) sBad sPass) (sSeq (sAsg (.tp [(.nm 1), (.nm 2), (.nm 3), (.nm 4)]) (eV 0)) (sSeq (sIf (tyNot (isB (eFn g_p_is_many (aCs (vD (eV 1)) aNl)))) sBad sPass) (sSeq (sIf (isB (eTyNot "tuple" (eV 2))) sBad sPass) (sSeq (sSet 5 (eFn g_p_first_wrong_sign (aCs (vD (eV 1)) (aCs (vD (eV 2)) aNl)))) (sSeq (sIf (isB (eBin isNotD (eV 5) (eC .none))) sBad sPass) (sSeq (sIf (tyNot (isB (eFn g_p_is_full_lot (aCs (vD (eV 1)) (aCs (vD (eV 3)) aNl))))) sBad sPass) (sSeq (sIf (tyOr (tyNot (isB (eFn g_p_is_full_lot (aCs (vD (eV 1)) (aCs (vD (eV 4)) aNl))))) (isB (eFn g_p_have_common_row (aCs (vD (eV 3)) (aCs (vD (eV 4)) aNl))))) sBad sPass) (sRet (eV 0))))))))))
noncomputable def g_p_need_question : FM := fnD 6 b_p_need_question
theorem ok_p_need_question {P : Program} {w : World} {K : PySem.W.Frag} {mg : Str → Option Value} {base : Heap} {f : Addr} {fd : FuncData} (F : Fun K "need_question" "need_question" s_p_need_question f fd) (m : mg "need_question" = some (.ref f)) (B : Blts mg) (C_p_is_full_lot : CalD P w K mg base 4 "is_full_lot" s_p_is_full_lot ["many", "thing"] 2 g_p_is_full_lot) (C_p_have_common_row : CalD P w K mg base 1 "have_common_row" s_p_have_common_row ["yes", "no"] 2 g_p_have_common_row) (C_p_first_wrong_sign : CalD P w K mg base 3 "first_wrong_sign" s_p_first_wrong_sign ["many", "signs"] 2 g_p_first_wrong_sign) (C_p_is_many : CalD P w K mg base 2 "is_many" s_p_is_many ["thing"] 1 g_p_is_many) (C_p_is_tuple : CalD P w K mg base 1 "is_tuple" s_p_is_tuple ["thing", "count"] 2 g_p_is_tuple) : CalD P w K mg base 5 "need_question" s_p_need_question ["question"] 1 g_p_need_question := by
  refine calD F (fnD_ok (N := ["question", "many", "signs", "yes", "no", "wrong"]) F sc_p_need_question (by decide) fun cdv A outer s H E c hr hgd => ?_) m (F.binds (ps := ["question"]) fun _ _ _ _ _ _ us hl => match us, hl with | [_], _ => rfl)
  have nd := sc_p_need_question.nd
  exact (ssCons (stIf (tNotC (tVal (dFc C_p_is_tuple (hr.mono (by omega)) hgd (by rfl) (avCons (vVal (dV 0 (pv 0))) (avCons (vVal dI) avNil)) (ArN.cons (ArN.cons ArN.nil))))) (ssOne stBad) ssNil)
    (ssCons (stAsg (dV 0 (pv 0)) (gTp rfl (gsCons (gNm 1 nd rfl (by first | exact .inl rfl | exact .inr rfl)) (gsCons (gNm 2 nd rfl (by first | exact .inl rfl | exact .inr rfl)) (gsCons (gNm 3 nd rfl (by first | exact .inl rfl | exact .inr rfl)) (gsCons (gNm 4 nd rfl (by first | exact .inl rfl | exact .inr rfl)) gsNil))))))
    (ssCons (stIf (tNotC (tVal (dFc C_p_is_many (hr.mono (by omega)) hgd (by rfl) (avCons (vVal (dV 1 (pv 1))) avNil) (ArN.cons ArN.nil)))) (ssOne stBad) ssNil)
    (ssCons (stIf (tTyNot (by rfl) B.type_ (by decide +kernel) (by decide) (by decide) (by rfl) B.tuple_ (by decide +kernel) (by decide) (by decide) (dV 2 (pv 2))) (ssOne stBad) ssNil)
    (ssCons (stSet 5 nd rfl (by first | exact .inl rfl | exact .inr rfl) (dFc C_p_first_wrong_sign (hr.mono (by omega)) hgd (by rfl) (avCons (vVal (dV 1 (pv 1))) (avCons (vVal (dV 2 (pv 2))) avNil)) (ArN.cons (ArN.cons ArN.nil))))
    (ssCons (stIf (tCmp o_isNot (dV 5 (pv 5)) dN (nomark _)) (ssOne stBad) ssNil)
    (ssCons (stIf (tNotC (tVal (dFc C_p_is_full_lot (hr.mono (by omega)) hgd (by rfl) (avCons (vVal (dV 1 (pv 1))) (avCons (vVal (dV 3 (pv 3))) avNil)) (ArN.cons (ArN.cons ArN.nil))))) (ssOne stBad) ssNil)
    (ssCons (stIf (PW.pt (tOrC (tNotC (tVal (dFc C_p_is_full_lot (hr.mono (by omega)) hgd (by rfl) (avCons (vVal (dV 1 (pv 1))) (avCons (vVal (dV 4 (pv 4))) avNil)) (ArN.cons (ArN.cons ArN.nil))))) (tOr1 (tVal (dFc C_p_have_common_row (hr.mono (by omega)) hgd (by rfl) (avCons (vVal (dV 3 (pv 3))) (avCons (vVal (dV 4 (pv 4))) avNil)) (ArN.cons (ArN.cons ArN.nil))))))) (ssOne stBad) ssNil)
    (ssOne (stRet (dV 0 (pv 0))))))))))))
abbrev s_p_question_of : Stmt := topS 29
theorem sc_p_question_of : FnScope ["many", "signs", "values"] ["many", "signs", "values"] (defScope s_p_question_of) := ⟨rfl, rfl, rfl, by decide +kernel, rfl, by decide +kernel, by decide +kernel⟩
noncomputable def b_p_question_of : SM := (sSeq (sDrop (eFnX g_p_need_many (aCs (vD (eV 0)) aNl))) (sSeq (sDrop (eFnX g_p_need_signs (aCs (vD (eV 0)) (aCs (vD (eV 1)) aNl)))) (sSeq (sDrop (eFnX g_p_need_values (aCs (vD (eV 0)) (aCs (vD (eV 2)) aNl)))) (sSeq (sIf (tyOr (isB (eBin notInG (eC (.int 0)) (eV 2))) (isB (eBin notInG (eC (.int 1)) (eV 2)))) (sRaise "BadParameter" (eV 2)) sPass) (sRet (eTup (lCons (eV 0) (lCons (eV 1) (lCons (eFn g_p_rows_with (aCs (vD (eV 2)) (aCs (vD (eC (.int 1))) aNl))) (lCons (eFn g_p_rows_with (aCs (vD (eV 2)) (aCs (vD (eC (.int 0))) aNl))) lNil))))))))))
noncomputable def g_p_question_of : FM := fnX 3 b_p_question_of
theorem ok_p_question_of {P : Program} {w : World} {K : PySem.W.Frag} {mg : Str → Option Value} {base : Heap} {f : Addr} {fd : FuncData} (F : Fun K "question_of" "question_of" s_p_question_of f fd) (m : mg "question_of" = some (.ref f)) (B : Blts mg) (C_p_rows_with : CalD P w K mg base 1 "rows_with" s_p_rows_with ["values", "bit"] 2 g_p_rows_with) (X_p_need_values : CalX P w K mg base 3 "need_values" s_p_need_values ["many", "values"] 2 g_p_need_values) (X_p_need_signs : CalX P w K mg base 4 "need_signs" s_p_need_signs ["many", "signs"] 2 g_p_need_signs) (X_p_need_many : CalX P w K mg base 3 "need_many" s_p_need_many ["many"] 1 g_p_need_many) (R_BadParameter : ErrC P w K mg base "BadParameter") : CalX P w K mg base 5 "question_of" s_p_question_of ["many", "signs", "values"] 3 g_p_question_of := by
  refine calX F (fnX_ok (N := ["many", "signs", "values"]) F sc_p_question_of (by decide) fun cdv A outer s H E c hr hgd => ?_) m (F.binds (ps := ["many", "signs", "values"]) fun _ _ _ _ _ _ us hl => match us, hl with | [_, _, _], _ => rfl)
  have nd := sc_p_question_of.nd
  have tk := takes_of (X := cxOf (L2.CX P w) P w K mg base ["many", "signs", "values"] "question_of" (defScope s_p_question_of) f cdv A outer s H E) rfl rfl rfl rfl
  exact (ssCons (stDrop (dFcX X_p_need_many (hr.mono (by omega)) hgd tk wId (by rfl) (avCons (vVal (dV 0 (pv 0))) avNil) (ArN.cons ArN.nil)))
    (ssCons (stDrop (dFcX X_p_need_signs (hr.mono (by omega)) hgd tk wId (by rfl) (avCons (vVal (dV 0 (pv 0))) (avCons (vVal (dV 1 (pv 1))) avNil)) (ArN.cons (ArN.cons ArN.nil))))
    (ssCons (stDrop (dFcX X_p_need_values (hr.mono (by omega)) hgd tk wId (by rfl) (avCons (vVal (dV 0 (pv 0))) (avCons (vVal (dV 2 (pv 2))) avNil)) (ArN.cons (ArN.cons ArN.nil))))
    (ssCons (stIf (PW.pt (tOrC (tCmp (o_notInG hr.units) dI (dV 2 (pv 2)) (by rfl)) (tOr1 (tCmp (o_notInG hr.units) dI (dV 2 (pv 2)) (by rfl))))) (ssOne (stRaise rfl R_BadParameter hr (by omega) tk wId (by rfl) (dV 2 (pv 2)))) ssNil)
    (ssOne (stRet (dTup (aCons (dV 0 (pv 0)) (aCons (dV 1 (pv 1)) (aCons (dFc C_p_rows_with (hr.mono (by omega)) hgd (by rfl) (avCons (vVal (dV 2 (pv 2))) (avCons (vVal dI) avNil)) (ArN.cons (ArN.cons ArN.nil))) (aCons (dFc C_p_rows_with (hr.mono (by omega)) hgd (by rfl) (avCons (vVal (dV 2 (pv 2))) (avCons (vVal dI) avNil)) (ArN.cons (ArN.cons ArN.nil))) aNil)))))))))))
abbrev s_p_first_unparted : Stmt := topS 23
theorem sc_p_first_unparted : FnScope ["question", "_", "signs", "yes", "no", "unsaid", "yes_row", "said_of", "no_row", "lacking", "row"] ["question"] (defScope s_p_first_unparted) := ⟨rfl, rfl, rfl, by decide +kernel, rfl, by decide +kernel, by decide +kernel⟩
noncomputable def b_p_first_unparted : SM := (sSeq (sAsg (.tp [(.nm 1), (.nm 2), (.nm 3), (.nm 4)]) (eFn g_p_need_question (aCs (vD (eV 0)) aNl))) (sSeq (sSet 5 (eComp [10] (itSeq (eV 4)) (.nm 10) tYesD (eTup (lCons (eV 10) (lCons (eFn g_p_not_so_of (aCs (vD (eV 2)) (aCs (vD (eV 10)) aNl))) lNil))))) (sSeq (sFor (.nm 6) (itSeq (eV 3)) (sSeq (sSet 7 (eFn g_p_so_of (aCs (vD (eV 2)) (aCs (vD (eV 6)) aNl)))) (sFor (.tp [(.nm 8), (.nm 9)]) (itSeq (eV 5)) (sIf (isB (eBin eqD (eBin andD (eV 7) (eV 9)) (eC (.int 0)))) (sRet (eTup (lCons (eV 6) (lCons (eV 8) lNil)))) sPass)))) (sRet (eC .none)))))
noncomputable def g_p_first_unparted : FM := fnD 11 b_p_first_unparted
theorem ok_p_first_unparted {P : Program} {w : World} {K : PySem.W.Frag} {mg : Str → Option Value} {base : Heap} {f : Addr} {fd : FuncData} (F : Fun K "first_unparted" "first_unparted" s_p_first_unparted f fd) (m : mg "first_unparted" = some (.ref f)) (B : Blts mg) (C_p_so_of : CalD P w K mg base 2 "so_of" s_p_so_of ["signs", "row"] 2 g_p_so_of) (C_p_not_so_of : CalD P w K mg base 2 "not_so_of" s_p_not_so_of ["signs", "row"] 2 g_p_not_so_of) (C_p_need_question : CalD P w K mg base 5 "need_question" s_p_need_question ["question"] 1 g_p_need_question) : CalD P w K mg base 6 "first_unparted" s_p_first_unparted ["question"] 1 g_p_first_unparted := by
  refine calD F (fnD_ok (N := ["question", "_", "signs", "yes", "no", "unsaid", "yes_row", "said_of", "no_row", "lacking", "row"]) F sc_p_first_unparted (by decide) fun cdv A outer s H E c hr hgd => ?_) m (F.binds (ps := ["question"]) fun _ _ _ _ _ _ us hl => match us, hl with | [_], _ => rfl)
  have nd := sc_p_first_unparted.nd
  exact (ssCons (stAsg (dFc C_p_need_question (hr.mono (by omega)) hgd (by rfl) (avCons (vVal (dV 0 (pv 0))) avNil) (ArN.cons ArN.nil)) (gTp rfl (gsCons (gNm 1 nd rfl (by first | exact .inl rfl | exact .inr rfl)) (gsCons (gNm 2 nd rfl (by first | exact .inl rfl | exact .inr rfl)) (gsCons (gNm 3 nd rfl (by first | exact .inl rfl | exact .inr rfl)) (gsCons (gNm 4 nd rfl (by first | exact .inl rfl | exact .inr rfl)) gsNil))))))
    (ssCons (stComp (i := 5) rfl nd rfl rfl (by rfl) (own := [("row", 10)]) (blkOk_by (N := ["question", "_", "signs", "yes", "no", "unsaid", "yes_row", "said_of", "no_row", "lacking", "row"]) (sc := defScope s_p_first_unparted) (by decide +kernel)) (iSeq (dV 4 (pv 4))) (by decide) (fun _ _ _ _ _ _ => (gNm 10 nd rfl (by first | exact .inl rfl | exact .inr rfl))) (fun _ _ _ _ _ _ => qNil) (fun _ _ _ _ _ _ => (dTup (aCons (dV 10 (pv 10)) (aCons (dFc C_p_not_so_of (hr.mono (by omega)) hgd (by rfl) (avCons (vVal (dV 2 (pv 2))) (avCons (vVal (dV 10 (pv 10))) avNil)) (ArN.cons (ArN.cons ArN.nil))) aNil)))))
    (ssCons (stFor PassesOwn.never rfl (iSeq (dV 3 (pv 3))) (gNm 6 nd rfl (by first | exact .inl rfl | exact .inr rfl)) (ssCons (stSet 7 nd rfl (by first | exact .inl rfl | exact .inr rfl) (dFc C_p_so_of (hr.mono (by omega)) hgd (by rfl) (avCons (vVal (dV 2 (pv 2))) (avCons (vVal (dV 6 (pv 6))) avNil)) (ArN.cons (ArN.cons ArN.nil))))
    (ssOne (stFor PassesOwn.never rfl (iSeq (dV 5 (pv 5))) (gTp rfl (gsCons (gNm 8 nd rfl (by first | exact .inl rfl | exact .inr rfl)) (gsCons (gNm 9 nd rfl (by first | exact .inl rfl | exact .inr rfl)) gsNil))) (ssOne (stIf (tCmp (o_eq hr.units) (dOp o_and (dV 7 (pv 7)) (dV 9 (pv 9))) dI (nomark _)) (ssOne (stRet (dTup (aCons (dV 6 (pv 6)) (aCons (dV 8 (pv 8)) aNil))))) ssNil))))))
    (ssOne (stRet dN)))))
abbrev s_l_refused : Stmt := topS 39
theorem sc_l_refused : FnScope ["count", "some", "worths", "told", "error_so"] ["count", "some", "worths"] (defScope s_l_refused) := ⟨rfl, rfl, rfl, by decide +kernel, rfl, by decide +kernel, by decide +kernel⟩
noncomputable def b_l_refused : SM := (sSeq (sSet 3 (eC .none)) (sSeq (sTryLk T_ "BadParameter" 4 3 2 (eFnX g_p_question_of (aCs (vD (eV 0)) (aCs (vD (eV 1)) (aCs (vD (eV 2)) aNl))))) (sRet (eC (.bool false)))))
noncomputable def g_l_refused : FM := fnD 5 b_l_refused
theorem ok_l_refused {P : Program} {w : World} {K : PySem.W.Frag} {mg : Str → Option Value} {base : Heap} {f : Addr} {fd : FuncData} (F : Fun K "_law_refused" "_law_refused" s_l_refused f fd) (m : mg "_law_refused" = some (.ref f)) (B : Blts mg) (X_p_question_of : CalX P w K mg base 5 "question_of" s_p_question_of ["many", "signs", "values"] 3 g_p_question_of) {CS : Addr} {C_BadParameter : Addr} (Kt_BadParameter : Takers K mg T_ "BadParameter" C_BadParameter) (Kh_BadParameter : ErrH K mg "BadParameter" C_BadParameter CS) (LK : LikeH P w K mg base) : CalD P w K mg base 6 "_law_refused" s_l_refused ["count", "some", "worths"] 3 g_l_refused := by
  refine calD F (fnD_ok (N := ["count", "some", "worths", "told", "error_so"]) F sc_l_refused (by decide) fun cdv A outer s H E c hr hgd => ?_) m (F.binds (ps := ["count", "some", "worths"]) fun _ _ _ _ _ _ us hl => match us, hl with | [_, _, _], _ => rfl)
  have nd := sc_l_refused.nd
  exact (ssCons (stSet 3 nd rfl (by first | exact .inl rfl | exact .inr rfl) dN)
    (ssCons (stTryLk (m := "BadParameter") (i := 4) (j := 3) (k := 2) rfl rfl takes0 wF nd rfl (by first | exact .inl rfl | exact .inr rfl) (fun V pn xe tk => (dFcX X_p_question_of (hr.mono (by omega)) hgd tk wId (by rfl) (avCons (vVal (dV 0 (pv 0))) (avCons (vVal (dV 1 (pv 1))) (avCons (vVal (dV 2 (pv 2))) avNil))) (ArN.cons (ArN.cons (ArN.cons ArN.nil))))) Kt_BadParameter Kh_BadParameter LK hr (by omega) hgd (tst_one ⟨by rfl, by decide, .inl Kt_BadParameter.1⟩) rfl rfl (by decide) (by rfl) B.isinstance_ (by rfl) (by rfl) (fun _ _ _ _ => pv 4) (fun _ _ _ _ => pv 3) (fun _ _ _ _ => pv 2))
    (ssOne (stRet dBl))))
abbrev s_p_can_be : Stmt := topS 26
theorem sc_p_can_be : FnScope ["question"] ["question"] (defScope s_p_can_be) := ⟨rfl, rfl, rfl, by decide +kernel, rfl, by decide +kernel, by decide +kernel⟩
noncomputable def b_p_can_be : SM := (sRet (eBin isD (eFn g_p_first_unparted (aCs (vD (eV 0)) aNl)) (eC .none)))
noncomputable def g_p_can_be : FM := fnD 1 b_p_can_be
theorem ok_p_can_be {P : Program} {w : World} {K : PySem.W.Frag} {mg : Str → Option Value} {base : Heap} {f : Addr} {fd : FuncData} (F : Fun K "can_be" "can_be" s_p_can_be f fd) (m : mg "can_be" = some (.ref f)) (B : Blts mg) (C_p_first_unparted : CalD P w K mg base 6 "first_unparted" s_p_first_unparted ["question"] 1 g_p_first_unparted) : CalD P w K mg base 7 "can_be" s_p_can_be ["question"] 1 g_p_can_be := by
  refine calD F (fnD_ok (N := ["question"]) F sc_p_can_be (by decide) fun cdv A outer s H E c hr hgd => ?_) m (F.binds (ps := ["question"]) fun _ _ _ _ _ _ us hl => match us, hl with | [_], _ => rfl)
  have nd := sc_p_can_be.nd
  exact (ssOne (stRet (dCmp o_is (dFc C_p_first_unparted (hr.mono (by omega)) hgd (by rfl) (avCons (vVal (dV 0 (pv 0))) avNil) (ArN.cons ArN.nil)) dN (nomark _))))
abbrev s_l_right : Stmt := topS 40
theorem sc_l_right : FnScope ["state", "count", "worths", "some", "near", "far", "told", "one", "line", "mark"] ["state", "count", "worths"] (defScope s_l_right) := ⟨rfl, rfl, rfl, by decide +kernel, rfl, by decide +kernel, by decide +kernel⟩
noncomputable def b_l_right : SM := (sSeq (sSet 3 (eCall tupleD (lCons (eComp [7] (itSeq (eFn g_p_all_signs (aCs (vD (eV 1)) aNl))) (.nm 7) (isB (eBin eqD (eFn g_l_draw (aCs (vS 0) (aCs (vD (eC (.int 2))) aNl))) (eC (.int 0)))) (eV 7)) lNil))) (sSeq (sIf (isB (eBin eqD (eUn lenSetG (eV 2)) (eC (.int 1)))) (sRet (eFn g_l_refused (aCs (vD (eV 1)) (aCs (vD (eV 3)) (aCs (vD (eV 2)) aNl))))) sPass) (sSeq (sSet 4 (eCall tupleD (lCons (eComp [8, 9] (itEn (eV 2)) (.tp [(.nm 8), (.nm 9)]) (isB (eBin eqD (eV 9) (eC (.int 1)))) (eV 8)) lNil))) (sSeq (sSet 5 (eCall tupleD (lCons (eComp [8, 9] (itEn (eV 2)) (.tp [(.nm 8), (.nm 9)]) (isB (eBin eqD (eV 9) (eC (.int 0)))) (eV 8)) lNil))) (sSeq (sFor (.nm 6) (itSeq (eTup (lCons (eV 3) (lCons (eFn g_p_all_signs (aCs (vD (eV 1)) aNl)) (lCons (eFn g_p_rising_signs (aCs (vD (eV 1)) aNl)) lNil))))) (sIf (tyNot (isB (eFn g_l_like (aCs (vD (eFn g_p_question_of (aCs (vD (eV 1)) (aCs (vD (eV 6)) (aCs (vD (eV 2)) aNl))))) (aCs (vD (eTup (lCons (eV 1) (lCons (eV 6) (lCons (eV 4) (lCons (eV 5) lNil)))))) aNl))))) (sRet (eC (.bool false))) sPass)) (sSeq (sIf (isB (eBin isNotD (eFn g_p_can_be (aCs (vD (eFn g_p_question_of (aCs (vD (eV 1)) (aCs (vD (eFn g_p_all_signs (aCs (vD (eV 1)) aNl))) (aCs (vD (eV 2)) aNl))))) aNl)) (eC (.bool true)))) (sRet (eC (.bool false))) sPass) (sRet (eFn g_l_like (aCs (vD (eFn g_p_can_be (aCs (vD (eFn g_p_question_of (aCs (vD (eV 1)) (aCs (vD (eFn g_p_rising_signs (aCs (vD (eV 1)) aNl))) (aCs (vD (eV 2)) aNl))))) aNl))) (aCs (vD (eFn g_l_rises (aCs (vD (eV 2)) aNl))) aNl))))))))))
noncomputable def g_l_right : FM := fnD 10 b_l_right
theorem ok_l_right {P : Program} {w : World} {K : PySem.W.Frag} {mg : Str → Option Value} {base : Heap} {f : Addr} {fd : FuncData} (F : Fun K "_law_right" "_law_right" s_l_right f fd) (m : mg "_law_right" = some (.ref f)) (B : Blts mg) (C_l_like : CalD P w K mg base 1 "_law_like" s_l_like ["got", "due"] 2 g_l_like) (C_p_can_be : CalD P w K mg base 7 "can_be" s_p_can_be ["question"] 1 g_p_can_be) (C_p_question_of : CalD P w K mg base 5 "question_of" s_p_question_of ["many", "signs", "values"] 3 g_p_question_of) (C_p_rising_signs : CalD P w K mg base 4 "rising_signs" s_p_rising_signs ["many"] 1 g_p_rising_signs) (C_l_rises : CalD P w K mg base 1 "_law_rises" s_l_rises ["worths"] 1 g_l_rises) (C_p_all_signs : CalD P w K mg base 4 "all_signs" s_p_all_signs ["many"] 1 g_p_all_signs) (C_l_refused : CalD P w K mg base 6 "_law_refused" s_l_refused ["count", "some", "worths"] 3 g_l_refused) (C_l_draw : CalD P w K mg base 2 "_law_draw" s_l_draw ["state", "limit"] 2 g_l_draw) : CalD P w K mg base 8 "_law_right" s_l_right ["state", "count", "worths"] 3 g_l_right := by
  refine calD F (fnD_ok (N := ["state", "count", "worths", "some", "near", "far", "told", "one", "line", "mark"]) F sc_l_right (by decide) fun cdv A outer s H E c hr hgd => ?_) m (F.binds (ps := ["state", "count", "worths"]) fun _ _ _ _ _ _ us hl => match us, hl with | [_, _, _], _ => rfl)
  have nd := sc_l_right.nd
  exact (ssCons (stSet 3 nd rfl (by first | exact .inl rfl | exact .inr rfl) (dTyp c_tuple (by rfl) B.tuple_ (by decide +kernel) (aCons (dComp rfl nd (own := [("one", 7)]) (blkOk_by (N := ["state", "count", "worths", "some", "near", "far", "told", "one", "line", "mark"]) (sc := defScope s_l_right) (by decide +kernel)) (iSeq (dFc C_p_all_signs (hr.mono (by omega)) hgd (by rfl) (avCons (vVal (dV 1 (pv 1))) avNil) (ArN.cons ArN.nil))) (by decide) (fun _ _ _ _ _ _ => (gNm 7 nd rfl (by first | exact .inl rfl | exact .inr rfl))) (fun _ _ _ _ _ _ => (qOne (tCmp (o_eq hr.units) (dFc C_l_draw (hr.mono (by omega)) hgd (by rfl) (avCons (vSl 0 (pv 0)) (avCons (vVal dI) avNil)) (ArN.cons (ArN.cons ArN.nil))) dI (nomark _)))) (fun _ _ _ _ _ _ => (dV 7 (pv 7)))) aNil)))
    (ssCons (stIf (tCmp (o_eq hr.units) (dLenSetG rfl (by rfl) B.len_ (by decide +kernel) (by decide) (by decide) (by rfl) B.set_ (by decide +kernel) (by decide) (by decide) (dV 2 (pv 2))) dI (nomark _)) (ssOne (stRet (dFc C_l_refused (hr.mono (by omega)) hgd (by rfl) (avCons (vVal (dV 1 (pv 1))) (avCons (vVal (dV 3 (pv 3))) (avCons (vVal (dV 2 (pv 2))) avNil))) (ArN.cons (ArN.cons (ArN.cons ArN.nil)))))) ssNil)
    (ssCons (stSet 4 nd rfl (by first | exact .inl rfl | exact .inr rfl) (dTyp c_tuple (by rfl) B.tuple_ (by decide +kernel) (aCons (dComp rfl nd (own := [("line", 8), ("mark", 9)]) (blkOk_by (N := ["state", "count", "worths", "some", "near", "far", "told", "one", "line", "mark"]) (sc := defScope s_l_right) (by decide +kernel)) (iEn (by rfl) B.enumerate_ (dV 2 (pv 2))) (by decide) (fun _ _ _ _ _ _ => (gTp rfl (gsCons (gNm 8 nd rfl (by first | exact .inl rfl | exact .inr rfl)) (gsCons (gNm 9 nd rfl (by first | exact .inl rfl | exact .inr rfl)) gsNil)))) (fun _ _ _ _ _ _ => (qOne (tCmp (o_eq hr.units) (dV 9 (pv 9)) dI (nomark _)))) (fun _ _ _ _ _ _ => (dV 8 (pv 8)))) aNil)))
    (ssCons (stSet 5 nd rfl (by first | exact .inl rfl | exact .inr rfl) (dTyp c_tuple (by rfl) B.tuple_ (by decide +kernel) (aCons (dComp rfl nd (own := [("line", 8), ("mark", 9)]) (blkOk_by (N := ["state", "count", "worths", "some", "near", "far", "told", "one", "line", "mark"]) (sc := defScope s_l_right) (by decide +kernel)) (iEn (by rfl) B.enumerate_ (dV 2 (pv 2))) (by decide) (fun _ _ _ _ _ _ => (gTp rfl (gsCons (gNm 8 nd rfl (by first | exact .inl rfl | exact .inr rfl)) (gsCons (gNm 9 nd rfl (by first | exact .inl rfl | exact .inr rfl)) gsNil)))) (fun _ _ _ _ _ _ => (qOne (tCmp (o_eq hr.units) (dV 9 (pv 9)) dI (nomark _)))) (fun _ _ _ _ _ _ => (dV 8 (pv 8)))) aNil)))
    (ssCons (stFor PassesOwn.never rfl (iSeq (dTup (aCons (dV 3 (pv 3)) (aCons (dFc C_p_all_signs (hr.mono (by omega)) hgd (by rfl) (avCons (vVal (dV 1 (pv 1))) avNil) (ArN.cons ArN.nil)) (aCons (dFc C_p_rising_signs (hr.mono (by omega)) hgd (by rfl) (avCons (vVal (dV 1 (pv 1))) avNil) (ArN.cons ArN.nil)) aNil))))) (gNm 6 nd rfl (by first | exact .inl rfl | exact .inr rfl)) (ssOne (stIf (tNotC (tVal (dFc C_l_like (hr.mono (by omega)) hgd (by rfl) (avCons (vVal (dFc C_p_question_of (hr.mono (by omega)) hgd (by rfl) (avCons (vVal (dV 1 (pv 1))) (avCons (vVal (dV 6 (pv 6))) (avCons (vVal (dV 2 (pv 2))) avNil))) (ArN.cons (ArN.cons (ArN.cons ArN.nil))))) (avCons (vVal (dTup (aCons (dV 1 (pv 1)) (aCons (dV 6 (pv 6)) (aCons (dV 4 (pv 4)) (aCons (dV 5 (pv 5)) aNil)))))) avNil)) (ArN.cons (ArN.cons ArN.nil))))) (ssOne (stRet dBl)) ssNil)))
    (ssCons (stIf (tCmp o_isNot (dFc C_p_can_be (hr.mono (by omega)) hgd (by rfl) (avCons (vVal (dFc C_p_question_of (hr.mono (by omega)) hgd (by rfl) (avCons (vVal (dV 1 (pv 1))) (avCons (vVal (dFc C_p_all_signs (hr.mono (by omega)) hgd (by rfl) (avCons (vVal (dV 1 (pv 1))) avNil) (ArN.cons ArN.nil))) (avCons (vVal (dV 2 (pv 2))) avNil))) (ArN.cons (ArN.cons (ArN.cons ArN.nil))))) avNil) (ArN.cons ArN.nil)) dBl (nomark _)) (ssOne (stRet dBl)) ssNil)
    (ssOne (stRet (dFc C_l_like (hr.mono (by omega)) hgd (by rfl) (avCons (vVal (dFc C_p_can_be (hr.mono (by omega)) hgd (by rfl) (avCons (vVal (dFc C_p_question_of (hr.mono (by omega)) hgd (by rfl) (avCons (vVal (dV 1 (pv 1))) (avCons (vVal (dFc C_p_rising_signs (hr.mono (by omega)) hgd (by rfl) (avCons (vVal (dV 1 (pv 1))) avNil) (ArN.cons ArN.nil))) (avCons (vVal (dV 2 (pv 2))) avNil))) (ArN.cons (ArN.cons (ArN.cons ArN.nil))))) avNil) (ArN.cons ArN.nil))) (avCons (vVal (dFc C_l_rises (hr.mono (by omega)) hgd (by rfl) (avCons (vVal (dV 2 (pv 2))) avNil) (ArN.cons ArN.nil))) avNil)) (ArN.cons (ArN.cons ArN.nil)))))))))))
end K03

namespace K03
open L2 PySem PySem.Spec PyProof.Rows DL
abbrev s_l_begin : Stmt := topS 33
theorem sc_l_like : FnScope ["got", "due"] ["got", "due"] (defScope s_l_like) := ⟨rfl, rfl, rfl, by decide +kernel, rfl, by decide +kernel, by decide +kernel⟩
theorem sc_l_begin : FnScope ["script", "cells_so", "cell"] ["script"] (defScope s_l_begin) := ⟨rfl, rfl, rfl, by decide +kernel, rfl, by decide +kernel, by decide +kernel⟩
theorem ok_l_begin {P : Program} {w : World} {K : PySem.W.Frag} {mg : Str → Option Value} {base : Heap} {f : Addr} {fd : FuncData} (F : Fun K "_law_begin" "_law_begin" s_l_begin f fd) (B : Blts mg) : FnG P w K mg base 1 f fd ["script"] (spBegin K) := by
  refine fn_G F sc_l_begin (fun vs H Q E h => ?_) fun cdv A outer s H vs Q E hr hgd _ h => ?_
  · obtain ⟨a, ns, rfl, _⟩ := h
    rfl
  · obtain ⟨a, ns, rfl, hS, hlen, q⟩ := h
    refine ⟨_, pss_cons (ps_set (i := 1) sc_l_begin.nd rfl (.inl rfl) (pe_ifExp (pt_cmpR (op_neD hr.units) (pv 0) (pe_lst pa_nil) (nomark _)) (pe_callTy call_list_of (by rfl) B.list_ (by decide +kernel) (pa_cons (pv 0) pa_nil)) (pe_lst (pa_cons pe_int pa_nil))))
      (pss_one (ps_ret (pe_disp (pps_cons pe_str (pv 1) (pps_cons pe_str (pe_lc rfl sc_l_begin.nd (pi_list (pv 1)) (own := [("cell", 2)]) (blkOk_by (N := ["script", "cells_so", "cell"]) (sc := defScope s_l_begin) (by decide +kernel)) (fun _ _ _ _ _ => pg_name (i := 2) sc_l_begin.nd rfl (.inl rfl)) (fun _ _ _ _ _ => pts_nil)
        (fun _ _ _ _ _ => pe_ifExp (pt_cmpR op_ge (pv 2) (pe_op op_pow pe_int pe_int) (nomark _)) (pv 2) pe_int)) (pps_cons pe_str pe_int pps_nil))) (by rfl) (by rfl) (fun z => by cases z) (by decide)))), ?_⟩
    exact begin_read hS hlen q

abbrev s_law_ : Stmt := topS 41
theorem sc_law_ : FnScope ["script", "state", "count", "turn", "told", "tables", "line", "worths", "longer"] ["script"] (defScope s_law_) := ⟨rfl, rfl, rfl, by decide +kernel, rfl, by decide +kernel, by decide +kernel⟩
noncomputable def b_law_ : SM := (sSeq (sFor (.nm 2) (itSeq (eTup (lCons (eC (.int 1)) (lCons (eC (.int 2)) lNil)))) (sSeq (sSet 5 (eLst (lCons (eTup lNil) lNil))) (sSeq (sFor (.nm 6) (itRg1 (eFn g_l_power (aCs (vD (eV 2)) aNl))) (sSeq (sSet 8 (eLst lNil)) (sSeq (sFor (.nm 7) (itSeq (eV 5)) (sSet 8 (eBin addD (eV 8) (eLst (lCons (eBin addD (eV 7) (eTup (lCons (eC (.int 0)) lNil))) (lCons (eBin addD (eV 7) (eTup (lCons (eC (.int 1)) lNil))) lNil)))))) (sSet 5 (eV 8))))) (sFor (.nm 7) (itSeq (eV 5)) (sIf (tyNot (isB (eFn g_l_right (aCs (vS 1) (aCs (vD (eV 2)) (aCs (vD (eV 7)) aNl)))))) (sRet (eC (.bool false))) sPass))))) (sSeq (sFor (.nm 3) (itRg1 (eC (.int 4))) (sSeq (sSet 2 (eBin addD (eC (.int 3)) (eFn g_l_draw (aCs (vS 1) (aCs (vD (eC (.int 4))) aNl))))) (sIf (tyNot (isB (eFn g_l_right (aCs (vS 1) (aCs (vD (eV 2)) (aCs (vD (eFn g_l_worths (aCs (vS 1) (aCs (vD (eV 2)) aNl)))) aNl)))))) (sRet (eC (.bool false))) sPass))) (sSeq (sSet 4 (eFn g_p_question_of (aPk [2, 1, 0] (aCs (vD (eBin addD (eBin mulG (eTup (lCons (eC (.int 0)) lNil)) (eC (.int 255))) (eTup (lCons (eC (.int 1)) lNil)))) (aCs (vD (eFn g_p_rising_signs (aCs (vD (eC (.int 8))) aNl))) (aCs (vD (eC (.int 8))) aNl)))))) (sRet (eFn g_l_like (aCs (vD (eLst (lCons (eBin ixD (eV 4) (eC (.int 2))) (lCons (eCall lenD (lCons (eBin ixD (eV 4) (eC (.int 3))) lNil)) (lCons (eFn g_p_can_be (aCs (vD (eV 4)) aNl)) lNil))))) (aCs (vD (eLst (lCons (eTup (lCons (eC (.int 255)) lNil)) (lCons (eC (.int 255)) (lCons (eC (.bool true)) lNil))))) aNl)))))))
abbrev r_law_ : List SV := SV.un :: SV.st :: List.replicate 7 SV.un
theorem ok_law_ {P : Program} {w : World} {K : PySem.W.Frag} {mg : Str → Option Value} {base : Heap} {f fb : Addr} {fd fdb : FuncData} (F : Fun K "law" "law" s_law_ f fd) (B : Blts mg) (FB : Fun K "_law_begin" "_law_begin" s_l_begin fb fdb) (mB : mg "_law_begin" = some (.ref fb)) (bB : Binds K fdb ["script"] []) (C_l_like : CalD P w K mg base 1 "_law_like" s_l_like ["got", "due"] 2 g_l_like) (C_p_can_be : CalD P w K mg base 7 "can_be" s_p_can_be ["question"] 1 g_p_can_be) (C_p_question_of : CalD P w K mg base 5 "question_of" s_p_question_of ["many", "signs", "values"] 3 g_p_question_of) (C_p_rising_signs : CalD P w K mg base 4 "rising_signs" s_p_rising_signs ["many"] 1 g_p_rising_signs) (C_l_right : CalD P w K mg base 8 "_law_right" s_l_right ["state", "count", "worths"] 3 g_l_right) (C_l_worths : CalD P w K mg base 3 "_law_worths" s_l_worths ["state", "count"] 2 g_l_worths) (C_l_draw : CalD P w K mg base 2 "_law_draw" s_l_draw ["state", "limit"] 2 g_l_draw) (C_l_power : CalD P w K mg base 1 "_law_power" s_l_power ["count"] 1 g_l_power)
    (math : ∀ w : DS, w.lefts.length = w.cells.length → 0 < w.cells.length → w.cells.length ≤ 63 → w.num = 0 → ∃ w2, b_law_ r_law_ w = .rt (.bool true) w2) : FnG P w K mg base 9 f fd ["script"] (spLaw K) := by
  refine fn_G F sc_law_ (fun vs H Q E h => ?_) fun cdv A outer s H vs Q E hr hgd _ h => ?_
  · obtain ⟨a, ns, rfl, _⟩ := h
    rfl
  · obtain ⟨a, ns, rfl, hS, hlen, hT, q⟩ := h
    have nd := sc_law_.nd
    refine ⟨_, pss_cons (ps_set (i := 1) nd rfl (by first | exact .inl rfl | exact .inr rfl) (pe_callG (ok_l_begin FB B) (hr.mono (by omega)) hgd (by rfl) mB FB.kp bB (pa_cons (pv 0) pa_nil))) (pss_ex (α := Cn) (t := fun c => tS (dc (cxOf CX0 P w K mg base ["script", "state", "count", "turn", "told", "tables", "line", "worths", "longer"] "law" (defScope s_law_) f cdv A outer s H E).nox c WF) b_law_) fun c => (ssCons (stFor PassesOwn.never rfl (iSeq (dTup (aCons dI (aCons dI aNil)))) (gNm 2 nd rfl (by first | exact .inl rfl | exact .inr rfl)) (ssCons (stSet 5 nd rfl (by first | exact .inl rfl | exact .inr rfl) (dLst (aCons (dTup aNil) aNil)))
    (ssCons (stFor PassesOwn.never rfl (iRg1 (by rfl) B.range_ (dFc C_l_power (hr.mono (by omega)) hgd (by rfl) (avCons (vVal (dV 2 (pv 2))) avNil) (ArN.cons ArN.nil))) (gNm 6 nd rfl (by first | exact .inl rfl | exact .inr rfl)) (ssCons (stSet 8 nd rfl (by first | exact .inl rfl | exact .inr rfl) (dLst aNil))
    (ssCons (stFor PassesOwn.never rfl (iSeq (dV 5 (pv 5))) (gNm 7 nd rfl (by first | exact .inl rfl | exact .inr rfl)) (ssOne (stSet 8 nd rfl (by first | exact .inl rfl | exact .inr rfl) (dOp o_add (dV 8 (pv 8)) (dLst (aCons (dOp o_add (dV 7 (pv 7)) (dTup (aCons dI aNil))) (aCons (dOp o_add (dV 7 (pv 7)) (dTup (aCons dI aNil))) aNil)))))))
    (ssOne (stSet 5 nd rfl (by first | exact .inl rfl | exact .inr rfl) (dV 8 (pv 8)))))))
    (ssOne (stFor PassesOwn.never rfl (iSeq (dV 5 (pv 5))) (gNm 7 nd rfl (by first | exact .inl rfl | exact .inr rfl)) (ssOne (stIf (tNotC (tVal (dFc C_l_right (hr.mono (by omega)) hgd (by rfl) (avCons (vSl 1 (pv 1)) (avCons (vVal (dV 2 (pv 2))) (avCons (vVal (dV 7 (pv 7))) avNil))) (ArN.cons (ArN.cons (ArN.cons ArN.nil)))))) (ssOne (stRet dBl)) ssNil)))))))
    (ssCons (stFor PassesOwn.never rfl (iRg1 (by rfl) B.range_ dI) (gNm 3 nd rfl (by first | exact .inl rfl | exact .inr rfl)) (ssCons (stSet 2 nd rfl (by first | exact .inl rfl | exact .inr rfl) (dOp o_add dI (dFc C_l_draw (hr.mono (by omega)) hgd (by rfl) (avCons (vSl 1 (pv 1)) (avCons (vVal dI) avNil)) (ArN.cons (ArN.cons ArN.nil)))))
    (ssOne (stIf (tNotC (tVal (dFc C_l_right (hr.mono (by omega)) hgd (by rfl) (avCons (vSl 1 (pv 1)) (avCons (vVal (dV 2 (pv 2))) (avCons (vVal (dFc C_l_worths (hr.mono (by omega)) hgd (by rfl) (avCons (vSl 1 (pv 1)) (avCons (vVal (dV 2 (pv 2))) avNil)) (ArN.cons (ArN.cons ArN.nil)))) avNil))) (ArN.cons (ArN.cons (ArN.cons ArN.nil)))))) (ssOne (stRet dBl)) ssNil))))
    (ssCons (stSet 4 nd rfl (by first | exact .inl rfl | exact .inr rfl) (dFcK C_p_question_of (hr.mono (by omega)) hgd (by rfl) (ks := ["values", "signs", "many"]) (ix := [2, 1, 0]) (fun _ _ _ _ _ _ ws hl => match ws, hl with | [_, _, _], _ => rfl) (kvCons (vVal (dOp o_add (dOp o_mulG (dTup (aCons dI aNil)) dI) (dTup (aCons dI aNil)))) (kvCons (vVal (dFc C_p_rising_signs (hr.mono (by omega)) hgd (by rfl) (avCons (vVal dI) avNil) (ArN.cons ArN.nil))) (kvCons (vVal dI) kvNil))) (ArN.cons (ArN.cons (ArN.cons ArN.nil))) rfl (fun l hl => match l, hl with | [_, _, _], _ => rfl)))
    (ssOne (stRet (dFc C_l_like (hr.mono (by omega)) hgd (by rfl) (avCons (vVal (dLst (aCons (dIx (dV 4 (pv 4)) dI) (aCons (dBlt c_len (by rfl) B.len_ (by decide +kernel) (aCons (dIx (dV 4 (pv 4)) dI) aNil)) (aCons (dFc C_p_can_be (hr.mono (by omega)) hgd (by rfl) (avCons (vVal (dV 4 (pv 4))) avNil) (ArN.cons ArN.nil)) aNil))))) (avCons (vVal (dLst (aCons (dTup (aCons dI aNil)) (aCons dI (aCons dBl aNil))))) avNil)) (ArN.cons (ArN.cons ArN.nil))))))))), ?_⟩
    refine ⟨.ref a, rfl, a, ns, rfl, hS, hlen, fun H2 s2 w2 b => ?_⟩
    obtain ⟨_, _, _, _, _, z5, z6⟩ := b.st s2 rfl
    obtain ⟨w3, hb⟩ := math w2 z5 z6 b.len b.num
    exact law_rest b hT hb rfl q
theorem all_mk {l : PySem.W.OpenLaw} {w : World} {K : PySem.W.Frag} {h : Heap} {mg : Str → Option Value} {fa : Addr} (X : K.In h) (G : h.Ns mainGlobals mg) (hfa : mg "law" = some (.ref fa))
    {f0 : Addr} {od0 an0 : Option Addr} {sl0 : Array (Option Value)} {oc0 kV0 dc0 pm0 cd0 ct0 : Value} {f1 : Addr} {od1 an1 : Option Addr} {sl1 : Array (Option Value)} {oc1 kV1 dc1 pm1 cd1 ct1 : Value} {f2 : Addr} {od2 an2 : Option Addr} {sl2 : Array (Option Value)} {oc2 kV2 dc2 pm2 cd2 ct2 : Value} {f3 : Addr} {od3 an3 : Option Addr} {sl3 : Array (Option Value)} {oc3 kV3 dc3 pm3 cd3 ct3 : Value} {f4 : Addr} {od4 an4 : Option Addr} {sl4 : Array (Option Value)} {oc4 kV4 dc4 pm4 cd4 ct4 : Value} {f5 : Addr} {od5 an5 : Option Addr} {sl5 : Array (Option Value)} {oc5 kV5 dc5 pm5 cd5 ct5 : Value} {f6 : Addr} {od6 an6 : Option Addr} {sl6 : Array (Option Value)} {oc6 kV6 dc6 pm6 cd6 ct6 : Value} {f7 : Addr} {od7 an7 : Option Addr} {sl7 : Array (Option Value)} {oc7 kV7 dc7 pm7 cd7 ct7 : Value} {f8 : Addr} {od8 an8 : Option Addr} {sl8 : Array (Option Value)} {oc8 kV8 dc8 pm8 cd8 ct8 : Value} {f9 : Addr} {od9 an9 : Option Addr} {sl9 : Array (Option Value)} {oc9 kV9 dc9 pm9 cd9 ct9 : Value} {f10 : Addr} {od10 an10 : Option Addr} {sl10 : Array (Option Value)} {oc10 kV10 dc10 pm10 cd10 ct10 : Value} {f11 : Addr} {od11 an11 : Option Addr} {sl11 : Array (Option Value)} {oc11 kV11 dc11 pm11 cd11 ct11 : Value} {f12 : Addr} {od12 an12 : Option Addr} {sl12 : Array (Option Value)} {oc12 kV12 dc12 pm12 cd12 ct12 : Value} {f13 : Addr} {od13 an13 : Option Addr} {sl13 : Array (Option Value)} {oc13 kV13 dc13 pm13 cd13 ct13 : Value} {f14 : Addr} {od14 an14 : Option Addr} {sl14 : Array (Option Value)} {oc14 kV14 dc14 pm14 cd14 ct14 : Value} {f15 : Addr} {od15 an15 : Option Addr} {sl15 : Array (Option Value)} {oc15 kV15 dc15 pm15 cd15 ct15 : Value} {f16 : Addr} {od16 an16 : Option Addr} {sl16 : Array (Option Value)} {oc16 kV16 dc16 pm16 cd16 ct16 : Value} {f17 : Addr} {od17 an17 : Option Addr} {sl17 : Array (Option Value)} {oc17 kV17 dc17 pm17 cd17 ct17 : Value} {f18 : Addr} {od18 an18 : Option Addr} {sl18 : Array (Option Value)} {oc18 kV18 dc18 pm18 cd18 ct18 : Value} {f19 : Addr} {od19 an19 : Option Addr} {sl19 : Array (Option Value)} {oc19 kV19 dc19 pm19 cd19 ct19 : Value} {f20 : Addr} {od20 an20 : Option Addr} {sl20 : Array (Option Value)} {oc20 kV20 dc20 pm20 cd20 ct20 : Value} {f21 : Addr} {od21 an21 : Option Addr} {sl21 : Array (Option Value)} {oc21 kV21 dc21 pm21 cd21 ct21 : Value} {f22 : Addr} {od22 an22 : Option Addr} {sl22 : Array (Option Value)} {oc22 kV22 dc22 pm22 cd22 ct22 : Value} {f23 : Addr} {od23 an23 : Option Addr} {sl23 : Array (Option Value)} {oc23 kV23 dc23 pm23 cd23 ct23 : Value} {f24 : Addr} {od24 an24 : Option Addr} {sl24 : Array (Option Value)} {oc24 kV24 dc24 pm24 cd24 ct24 : Value} {f25 : Addr} {od25 an25 : Option Addr} {sl25 : Array (Option Value)} {oc25 kV25 dc25 pm25 cd25 ct25 : Value} {f26 : Addr} {od26 an26 : Option Addr} {sl26 : Array (Option Value)} {oc26 kV26 dc26 pm26 cd26 ct26 : Value} {f27 : Addr} {od27 an27 : Option Addr} {sl27 : Array (Option Value)} {oc27 kV27 dc27 pm27 cd27 ct27 : Value} {f28 : Addr} {od28 an28 : Option Addr} {sl28 : Array (Option Value)} {oc28 kV28 dc28 pm28 cd28 ct28 : Value} {f29 : Addr} {od29 an29 : Option Addr} {sl29 : Array (Option Value)} {oc29 kV29 dc29 pm29 cd29 ct29 : Value} {f30 : Addr} {od30 an30 : Option Addr} {sl30 : Array (Option Value)} {oc30 kV30 dc30 pm30 cd30 ct30 : Value} {f31 : Addr} {od31 an31 : Option Addr} {sl31 : Array (Option Value)} {oc31 kV31 dc31 pm31 cd31 ct31 : Value} {f32 : Addr} {od32 an32 : Option Addr} {sl32 : Array (Option Value)} {oc32 kV32 dc32 pm32 cd32 ct32 : Value} {t_MOST_BITS : Nat} {C_BadQuestion : Addr} {C_BadTable : Addr} {C_BadParameter : Addr} {fI_BadTable : Addr} {nm_BadTable q_BadTable : Str} {N_BadTable : Addr} {bs_BadTable bm_BadTable : List Value} {sn_BadTable : List Str} {su_BadTable : List Value} {ab_BadTable : Bool} {co_BadTable : Option Bool} {dd_BadTable : Option Addr} {k0_BadTable k1_BadTable k2_BadTable k3_BadTable k5_BadTable : Option Value} {oi_BadTable ai_BadTable : Option Addr} {li_BadTable : Array (Option Value)} {ci_BadTable vi_BadTable di_BadTable pi_BadTable cdi_BadTable cti_BadTable : Value} {fI_BadParameter : Addr} {nm_BadParameter q_BadParameter : Str} {N_BadParameter : Addr} {bs_BadParameter bm_BadParameter : List Value} {sn_BadParameter : List Str} {su_BadParameter : List Value} {ab_BadParameter : Bool} {co_BadParameter : Option Bool} {dd_BadParameter : Option Addr} {k0_BadParameter k1_BadParameter k2_BadParameter k3_BadParameter k5_BadParameter : Option Value} {oi_BadParameter ai_BadParameter : Option Addr} {li_BadParameter : Array (Option Value)} {ci_BadParameter vi_BadParameter di_BadParameter pi_BadParameter cdi_BadParameter cti_BadParameter : Value} {CS : Addr}
    (a0 : PySem.W.nsIn K mainGlobals "is_integer" = some (some (.ref f0))) (l0 : K.lookup f0 = some ⟨oc0, od0, .func (PySem.W.fnOf "is_integer" "is_integer" (defArgs s_p_is_integer) (defBody s_p_is_integer) (defScope s_p_is_integer) .none kV0 dc0 pm0 an0 cd0 ct0), sl0⟩) (c0 : PySem.W.codeIn K cd0 "is_integer" = true) (k0 : PySem.W.keepIn K (.ref f0) = true) (a1 : PySem.W.nsIn K mainGlobals "is_tuple" = some (some (.ref f1))) (l1 : K.lookup f1 = some ⟨oc1, od1, .func (PySem.W.fnOf "is_tuple" "is_tuple" (defArgs s_p_is_tuple) (defBody s_p_is_tuple) (defScope s_p_is_tuple) .none kV1 dc1 pm1 an1 cd1 ct1), sl1⟩) (c1 : PySem.W.codeIn K cd1 "is_tuple" = true) (k1 : PySem.W.keepIn K (.ref f1) = true) (a2 : PySem.W.nsIn K mainGlobals "have_common_row" = some (some (.ref f2))) (l2 : K.lookup f2 = some ⟨oc2, od2, .func (PySem.W.fnOf "have_common_row" "have_common_row" (defArgs s_p_have_common_row) (defBody s_p_have_common_row) (defScope s_p_have_common_row) .none kV2 dc2 pm2 an2 cd2 ct2), sl2⟩) (c2 : PySem.W.codeIn K cd2 "have_common_row" = true) (k2 : PySem.W.keepIn K (.ref f2) = true) (a3 : PySem.W.nsIn K mainGlobals "is_so" = some (some (.ref f3))) (l3 : K.lookup f3 = some ⟨oc3, od3, .func (PySem.W.fnOf "is_so" "is_so" (defArgs s_p_is_so) (defBody s_p_is_so) (defScope s_p_is_so) .none kV3 dc3 pm3 an3 cd3 ct3), sl3⟩) (c3 : PySem.W.codeIn K cd3 "is_so" = true) (k3 : PySem.W.keepIn K (.ref f3) = true) (a4 : PySem.W.nsIn K mainGlobals "rows_with" = some (some (.ref f4))) (l4 : K.lookup f4 = some ⟨oc4, od4, .func (PySem.W.fnOf "rows_with" "rows_with" (defArgs s_p_rows_with) (defBody s_p_rows_with) (defScope s_p_rows_with) .none kV4 dc4 pm4 an4 cd4 ct4), sl4⟩) (c4 : PySem.W.codeIn K cd4 "rows_with" = true) (k4 : PySem.W.keepIn K (.ref f4) = true) (a5 : PySem.W.nsIn K mainGlobals "_law_mixed" = some (some (.ref f5))) (l5 : K.lookup f5 = some ⟨oc5, od5, .func (PySem.W.fnOf "_law_mixed" "_law_mixed" (defArgs s_l_mixed) (defBody s_l_mixed) (defScope s_l_mixed) .none kV5 dc5 pm5 an5 cd5 ct5), sl5⟩) (c5 : PySem.W.codeIn K cd5 "_law_mixed" = true) (k5 : PySem.W.keepIn K (.ref f5) = true) (a6 : PySem.W.nsIn K mainGlobals "_law_begin" = some (some (.ref f6))) (l6 : K.lookup f6 = some ⟨oc6, od6, .func (PySem.W.fnOf "_law_begin" "_law_begin" (defArgs s_l_begin) (defBody s_l_begin) (defScope s_l_begin) .none kV6 dc6 pm6 an6 cd6 ct6), sl6⟩) (c6 : PySem.W.codeIn K cd6 "_law_begin" = true) (k6 : PySem.W.keepIn K (.ref f6) = true) (a7 : PySem.W.nsIn K mainGlobals "_law_power" = some (some (.ref f7))) (l7 : K.lookup f7 = some ⟨oc7, od7, .func (PySem.W.fnOf "_law_power" "_law_power" (defArgs s_l_power) (defBody s_l_power) (defScope s_l_power) .none kV7 dc7 pm7 an7 cd7 ct7), sl7⟩) (c7 : PySem.W.codeIn K cd7 "_law_power" = true) (k7 : PySem.W.keepIn K (.ref f7) = true) (a8 : PySem.W.nsIn K mainGlobals "_law_rises" = some (some (.ref f8))) (l8 : K.lookup f8 = some ⟨oc8, od8, .func (PySem.W.fnOf "_law_rises" "_law_rises" (defArgs s_l_rises) (defBody s_l_rises) (defScope s_l_rises) .none kV8 dc8 pm8 an8 cd8 ct8), sl8⟩) (c8 : PySem.W.codeIn K cd8 "_law_rises" = true) (k8 : PySem.W.keepIn K (.ref f8) = true) (a9 : PySem.W.nsIn K mainGlobals "_law_like" = some (some (.ref f9))) (l9 : K.lookup f9 = some ⟨oc9, od9, .func (PySem.W.fnOf "_law_like" "_law_like" (defArgs s_l_like) (defBody s_l_like) (defScope s_l_like) .none kV9 dc9 pm9 an9 cd9 ct9), sl9⟩) (c9 : PySem.W.codeIn K cd9 "_law_like" = true) (k9 : PySem.W.keepIn K (.ref f9) = true) (a10 : PySem.W.nsIn K mainGlobals "is_many" = some (some (.ref f10))) (l10 : K.lookup f10 = some ⟨oc10, od10, .func (PySem.W.fnOf "is_many" "is_many" (defArgs s_p_is_many) (defBody s_p_is_many) (defScope s_p_is_many) .none kV10 dc10 pm10 an10 cd10 ct10), sl10⟩) (c10 : PySem.W.codeIn K cd10 "is_many" = true) (k10 : PySem.W.keepIn K (.ref f10) = true) (a11 : PySem.W.nsIn K mainGlobals "is_sign" = some (some (.ref f11))) (l11 : K.lookup f11 = some ⟨oc11, od11, .func (PySem.W.fnOf "is_sign" "is_sign" (defArgs s_p_is_sign) (defBody s_p_is_sign) (defScope s_p_is_sign) .none kV11 dc11 pm11 an11 cd11 ct11), sl11⟩) (c11 : PySem.W.codeIn K cd11 "is_sign" = true) (k11 : PySem.W.keepIn K (.ref f11) = true) (a12 : PySem.W.nsIn K mainGlobals "is_set_of_numbers" = some (some (.ref f12))) (l12 : K.lookup f12 = some ⟨oc12, od12, .func (PySem.W.fnOf "is_set_of_numbers" "is_set_of_numbers" (defArgs s_p_is_set_of_numbers) (defBody s_p_is_set_of_numbers) (defScope s_p_is_set_of_numbers) .none kV12 dc12 pm12 an12 cd12 ct12), sl12⟩) (c12 : PySem.W.codeIn K cd12 "is_set_of_numbers" = true) (k12 : PySem.W.keepIn K (.ref f12) = true) (a13 : PySem.W.nsIn K mainGlobals "first_wrong_value" = some (some (.ref f13))) (l13 : K.lookup f13 = some ⟨oc13, od13, .func (PySem.W.fnOf "first_wrong_value" "first_wrong_value" (defArgs s_p_first_wrong_value) (defBody s_p_first_wrong_value) (defScope s_p_first_wrong_value) .none kV13 dc13 pm13 an13 cd13 ct13), sl13⟩) (c13 : PySem.W.codeIn K cd13 "first_wrong_value" = true) (k13 : PySem.W.keepIn K (.ref f13) = true) (a14 : PySem.W.nsIn K mainGlobals "so_of" = some (some (.ref f14))) (l14 : K.lookup f14 = some ⟨oc14, od14, .func (PySem.W.fnOf "so_of" "so_of" (defArgs s_p_so_of) (defBody s_p_so_of) (defScope s_p_so_of) .none kV14 dc14 pm14 an14 cd14 ct14), sl14⟩) (c14 : PySem.W.codeIn K cd14 "so_of" = true) (k14 : PySem.W.keepIn K (.ref f14) = true) (a15 : PySem.W.nsIn K mainGlobals "not_so_of" = some (some (.ref f15))) (l15 : K.lookup f15 = some ⟨oc15, od15, .func (PySem.W.fnOf "not_so_of" "not_so_of" (defArgs s_p_not_so_of) (defBody s_p_not_so_of) (defScope s_p_not_so_of) .none kV15 dc15 pm15 an15 cd15 ct15), sl15⟩) (c15 : PySem.W.codeIn K cd15 "not_so_of" = true) (k15 : PySem.W.keepIn K (.ref f15) = true) (a16 : PySem.W.nsIn K mainGlobals "_law_draw" = some (some (.ref f16))) (l16 : K.lookup f16 = some ⟨oc16, od16, .func (PySem.W.fnOf "_law_draw" "_law_draw" (defArgs s_l_draw) (defBody s_l_draw) (defScope s_l_draw) .none kV16 dc16 pm16 an16 cd16 ct16), sl16⟩) (c16 : PySem.W.codeIn K cd16 "_law_draw" = true) (k16 : PySem.W.keepIn K (.ref f16) = true) (a17 : PySem.W.nsIn K mainGlobals "is_lot" = some (some (.ref f17))) (l17 : K.lookup f17 = some ⟨oc17, od17, .func (PySem.W.fnOf "is_lot" "is_lot" (defArgs s_p_is_lot) (defBody s_p_is_lot) (defScope s_p_is_lot) .none kV17 dc17 pm17 an17 cd17 ct17), sl17⟩) (c17 : PySem.W.codeIn K cd17 "is_lot" = true) (k17 : PySem.W.keepIn K (.ref f17) = true) (a18 : PySem.W.nsIn K mainGlobals "first_wrong_sign" = some (some (.ref f18))) (l18 : K.lookup f18 = some ⟨oc18, od18, .func (PySem.W.fnOf "first_wrong_sign" "first_wrong_sign" (defArgs s_p_first_wrong_sign) (defBody s_p_first_wrong_sign) (defScope s_p_first_wrong_sign) .none kV18 dc18 pm18 an18 cd18 ct18), sl18⟩) (c18 : PySem.W.codeIn K cd18 "first_wrong_sign" = true) (k18 : PySem.W.keepIn K (.ref f18) = true) (a19 : PySem.W.nsIn K mainGlobals "need_many" = some (some (.ref f19))) (l19 : K.lookup f19 = some ⟨oc19, od19, .func (PySem.W.fnOf "need_many" "need_many" (defArgs s_p_need_many) (defBody s_p_need_many) (defScope s_p_need_many) .none kV19 dc19 pm19 an19 cd19 ct19), sl19⟩) (c19 : PySem.W.codeIn K cd19 "need_many" = true) (k19 : PySem.W.keepIn K (.ref f19) = true) (a20 : PySem.W.nsIn K mainGlobals "need_values" = some (some (.ref f20))) (l20 : K.lookup f20 = some ⟨oc20, od20, .func (PySem.W.fnOf "need_values" "need_values" (defArgs s_p_need_values) (defBody s_p_need_values) (defScope s_p_need_values) .none kV20 dc20 pm20 an20 cd20 ct20), sl20⟩) (c20 : PySem.W.codeIn K cd20 "need_values" = true) (k20 : PySem.W.keepIn K (.ref f20) = true) (a21 : PySem.W.nsIn K mainGlobals "_law_worths" = some (some (.ref f21))) (l21 : K.lookup f21 = some ⟨oc21, od21, .func (PySem.W.fnOf "_law_worths" "_law_worths" (defArgs s_l_worths) (defBody s_l_worths) (defScope s_l_worths) .none kV21 dc21 pm21 an21 cd21 ct21), sl21⟩) (c21 : PySem.W.codeIn K cd21 "_law_worths" = true) (k21 : PySem.W.keepIn K (.ref f21) = true) (a22 : PySem.W.nsIn K mainGlobals "need_signs" = some (some (.ref f22))) (l22 : K.lookup f22 = some ⟨oc22, od22, .func (PySem.W.fnOf "need_signs" "need_signs" (defArgs s_p_need_signs) (defBody s_p_need_signs) (defScope s_p_need_signs) .none kV22 dc22 pm22 an22 cd22 ct22), sl22⟩) (c22 : PySem.W.codeIn K cd22 "need_signs" = true) (k22 : PySem.W.keepIn K (.ref f22) = true) (a23 : PySem.W.nsIn K mainGlobals "is_full_lot" = some (some (.ref f23))) (l23 : K.lookup f23 = some ⟨oc23, od23, .func (PySem.W.fnOf "is_full_lot" "is_full_lot" (defArgs s_p_is_full_lot) (defBody s_p_is_full_lot) (defScope s_p_is_full_lot) .none kV23 dc23 pm23 an23 cd23 ct23), sl23⟩) (c23 : PySem.W.codeIn K cd23 "is_full_lot" = true) (k23 : PySem.W.keepIn K (.ref f23) = true) (a24 : PySem.W.nsIn K mainGlobals "rising_signs" = some (some (.ref f24))) (l24 : K.lookup f24 = some ⟨oc24, od24, .func (PySem.W.fnOf "rising_signs" "rising_signs" (defArgs s_p_rising_signs) (defBody s_p_rising_signs) (defScope s_p_rising_signs) .none kV24 dc24 pm24 an24 cd24 ct24), sl24⟩) (c24 : PySem.W.codeIn K cd24 "rising_signs" = true) (k24 : PySem.W.keepIn K (.ref f24) = true) (a25 : PySem.W.nsIn K mainGlobals "all_signs" = some (some (.ref f25))) (l25 : K.lookup f25 = some ⟨oc25, od25, .func (PySem.W.fnOf "all_signs" "all_signs" (defArgs s_p_all_signs) (defBody s_p_all_signs) (defScope s_p_all_signs) .none kV25 dc25 pm25 an25 cd25 ct25), sl25⟩) (c25 : PySem.W.codeIn K cd25 "all_signs" = true) (k25 : PySem.W.keepIn K (.ref f25) = true) (a26 : PySem.W.nsIn K mainGlobals "need_question" = some (some (.ref f26))) (l26 : K.lookup f26 = some ⟨oc26, od26, .func (PySem.W.fnOf "need_question" "need_question" (defArgs s_p_need_question) (defBody s_p_need_question) (defScope s_p_need_question) .none kV26 dc26 pm26 an26 cd26 ct26), sl26⟩) (c26 : PySem.W.codeIn K cd26 "need_question" = true) (k26 : PySem.W.keepIn K (.ref f26) = true) (a27 : PySem.W.nsIn K mainGlobals "question_of" = some (some (.ref f27))) (l27 : K.lookup f27 = some ⟨oc27, od27, .func (PySem.W.fnOf "question_of" "question_of" (defArgs s_p_question_of) (defBody s_p_question_of) (defScope s_p_question_of) .none kV27 dc27 pm27 an27 cd27 ct27), sl27⟩) (c27 : PySem.W.codeIn K cd27 "question_of" = true) (k27 : PySem.W.keepIn K (.ref f27) = true) (a28 : PySem.W.nsIn K mainGlobals "first_unparted" = some (some (.ref f28))) (l28 : K.lookup f28 = some ⟨oc28, od28, .func (PySem.W.fnOf "first_unparted" "first_unparted" (defArgs s_p_first_unparted) (defBody s_p_first_unparted) (defScope s_p_first_unparted) .none kV28 dc28 pm28 an28 cd28 ct28), sl28⟩) (c28 : PySem.W.codeIn K cd28 "first_unparted" = true) (k28 : PySem.W.keepIn K (.ref f28) = true) (a29 : PySem.W.nsIn K mainGlobals "_law_refused" = some (some (.ref f29))) (l29 : K.lookup f29 = some ⟨oc29, od29, .func (PySem.W.fnOf "_law_refused" "_law_refused" (defArgs s_l_refused) (defBody s_l_refused) (defScope s_l_refused) .none kV29 dc29 pm29 an29 cd29 ct29), sl29⟩) (c29 : PySem.W.codeIn K cd29 "_law_refused" = true) (k29 : PySem.W.keepIn K (.ref f29) = true) (a30 : PySem.W.nsIn K mainGlobals "can_be" = some (some (.ref f30))) (l30 : K.lookup f30 = some ⟨oc30, od30, .func (PySem.W.fnOf "can_be" "can_be" (defArgs s_p_can_be) (defBody s_p_can_be) (defScope s_p_can_be) .none kV30 dc30 pm30 an30 cd30 ct30), sl30⟩) (c30 : PySem.W.codeIn K cd30 "can_be" = true) (k30 : PySem.W.keepIn K (.ref f30) = true) (a31 : PySem.W.nsIn K mainGlobals "_law_right" = some (some (.ref f31))) (l31 : K.lookup f31 = some ⟨oc31, od31, .func (PySem.W.fnOf "_law_right" "_law_right" (defArgs s_l_right) (defBody s_l_right) (defScope s_l_right) .none kV31 dc31 pm31 an31 cd31 ct31), sl31⟩) (c31 : PySem.W.codeIn K cd31 "_law_right" = true) (k31 : PySem.W.keepIn K (.ref f31) = true) (a32 : PySem.W.nsIn K mainGlobals "law" = some (some (.ref f32))) (l32 : K.lookup f32 = some ⟨oc32, od32, .func (PySem.W.fnOf "law" "law" (defArgs s_law_) (defBody s_law_) (defScope s_law_) .none kV32 dc32 pm32 an32 cd32 ct32), sl32⟩) (c32 : PySem.W.codeIn K cd32 "law" = true) (k32 : PySem.W.keepIn K (.ref f32) = true) (v_MOST_BITS : PySem.W.nsIn K mainGlobals "MOST_BITS" = some (some (.int 8 t_MOST_BITS))) (z_enumerate : PySem.W.nsIn K mainGlobals "enumerate" = some none) (z_int : PySem.W.nsIn K mainGlobals "int" = some none) (z_isinstance : PySem.W.nsIn K mainGlobals "isinstance" = some none) (z_len : PySem.W.nsIn K mainGlobals "len" = some none) (z_list : PySem.W.nsIn K mainGlobals "list" = some none) (z_range : PySem.W.nsIn K mainGlobals "range" = some none) (z_repr : PySem.W.nsIn K mainGlobals "repr" = some none) (z_set : PySem.W.nsIn K mainGlobals "set" = some none) (z_sum : PySem.W.nsIn K mainGlobals "sum" = some none) (z_tuple : PySem.W.nsIn K mainGlobals "tuple" = some none) (z_type : PySem.W.nsIn K mainGlobals "type" = some none) (ec_BadQuestion : PySem.W.nsIn K mainGlobals "BadQuestion" = some (some (.ref C_BadQuestion))) (ec_BadTable : PySem.W.nsIn K mainGlobals "BadTable" = some (some (.ref C_BadTable))) (ec_BadParameter : PySem.W.nsIn K mainGlobals "BadParameter" = some (some (.ref C_BadParameter))) (ex_BadTable : K.lookup C_BadTable = some (excClassObj nm_BadTable q_BadTable C_BadTable N_BadTable bs_BadTable bm_BadTable true sn_BadTable su_BadTable ab_BadTable co_BadTable dd_BadTable k0_BadTable k1_BadTable k2_BadTable k3_BadTable k5_BadTable "ValueError.__new__")) (er_BadTable : PySem.HandSPX.refsVE bm_BadTable = true) (es_BadTable : PySem.W.findIn K (.ref C_BadTable) "__setattr__" = some (some (.builtin "object.__setattr__"))) (en_BadTable : PySem.W.findIn K (.ref C_BadTable) "place" = some none) (ei_BadTable : PySem.W.findIn K (.ref C_BadTable) "__init__" = some (some (.ref fI_BadTable))) (et_BadTable : PySem.W.typeIn K (.ref fI_BadTable) = some (.type "function")) (el_BadTable : K.lookup fI_BadTable = some ⟨ci_BadTable, oi_BadTable, .func (PySem.W.fnOf "__init__" "BadTable.__init__" (defArgs s_i_BadTable) (defBody s_i_BadTable) (defScope s_i_BadTable) .none vi_BadTable di_BadTable pi_BadTable ai_BadTable cdi_BadTable cti_BadTable), li_BadTable⟩) (eo_BadTable : PySem.W.codeIn K cdi_BadTable "BadTable.__init__" = true) (ek_BadTable : PySem.W.keepIn K (.ref fI_BadTable) = true) (eb_BadTable : PySem.W.subIn K (.ref C_BadTable) (.type "BaseException") = some true) (ey_BadTable : PySem.W.typeIn K (.ref C_BadTable) = some (.type "type")) (ew_BadTable : PySem.W.keepIn K (.ref C_BadTable) = true) (ex_BadParameter : K.lookup C_BadParameter = some (excClassObj nm_BadParameter q_BadParameter C_BadParameter N_BadParameter bs_BadParameter bm_BadParameter true sn_BadParameter su_BadParameter ab_BadParameter co_BadParameter dd_BadParameter k0_BadParameter k1_BadParameter k2_BadParameter k3_BadParameter k5_BadParameter "ValueError.__new__")) (er_BadParameter : PySem.HandSPX.refsVE bm_BadParameter = true) (es_BadParameter : PySem.W.findIn K (.ref C_BadParameter) "__setattr__" = some (some (.builtin "object.__setattr__"))) (en_BadParameter : PySem.W.findIn K (.ref C_BadParameter) "value" = some none) (ei_BadParameter : PySem.W.findIn K (.ref C_BadParameter) "__init__" = some (some (.ref fI_BadParameter))) (et_BadParameter : PySem.W.typeIn K (.ref fI_BadParameter) = some (.type "function")) (el_BadParameter : K.lookup fI_BadParameter = some ⟨ci_BadParameter, oi_BadParameter, .func (PySem.W.fnOf "__init__" "BadParameter.__init__" (defArgs s_i_BadParameter) (defBody s_i_BadParameter) (defScope s_i_BadParameter) .none vi_BadParameter di_BadParameter pi_BadParameter ai_BadParameter cdi_BadParameter cti_BadParameter), li_BadParameter⟩) (eo_BadParameter : PySem.W.codeIn K cdi_BadParameter "BadParameter.__init__" = true) (ek_BadParameter : PySem.W.keepIn K (.ref fI_BadParameter) = true) (eb_BadParameter : PySem.W.subIn K (.ref C_BadParameter) (.type "BaseException") = some true) (ey_BadParameter : PySem.W.typeIn K (.ref C_BadParameter) = some (.type "type")) (ew_BadParameter : PySem.W.keepIn K (.ref C_BadParameter) = true) (hb_BadParameter : PySem.W.subIn K (.ref C_BadParameter) (.type "BaseException") = some true) (hi_BadParameter : PySem.W.isClsIn K C_BadParameter = true) (hy_BadParameter : PySem.W.typeIn K (.ref C_BadParameter) = some (.type "type")) (hs_BadQuestion_BadParameter : PySem.W.subIn K (.ref C_BadQuestion) (.ref C_BadParameter) = some false) (hs_BadTable_BadParameter : PySem.W.subIn K (.ref C_BadTable) (.ref C_BadParameter) = some false) (hs_BadParameter_BadParameter : PySem.W.subIn K (.ref C_BadParameter) (.ref C_BadParameter) = some true) (ec_S : PySem.W.nsIn K mainGlobals "SaidError" = some (some (.ref CS))) (ni_S : PySem.W.isClsIn K CS = true) (ny_S : PySem.W.typeIn K (.ref CS) = some (.type "type")) (nga_BadParameter : PySem.W.findIn K (.ref C_BadParameter) "__getattribute__" = some (some (.builtin "BaseException.__getattribute__"))) (ngg_BadParameter : PySem.W.findIn K (.ref C_BadParameter) "__getattr__" = some none) (nhd_BadParameter : PySem.W.hasDictIn K C_BadParameter = true) (nno_BadParameter : PySem.W.findIn K (.ref C_BadParameter) "value" = some none) (nha_BadParameter : PySem.W.findIn K (.ref C_BadParameter) "__class__" = some (some (.builtin "object.__class__"))) (nhn_BadParameter : PySem.W.specialIn K (.builtin "object.__class__") "__get__" = some (some (.builtin "getset_descriptor.__get__"))) (nht_BadParameter : PySem.W.takesIn K (.builtin "object.__class__") = some true) (nhm_BadParameter : PySem.W.mroIn K C_BadParameter (.type "object") = some true) (nsu_BadParameter : PySem.W.subIn K (.ref C_BadParameter) (.ref CS) = some true) (ja_is_parting : PySem.W.tabIn K "is_parting" = none) (ja__law_two : PySem.W.tabIn K "_law_two" = none) (ja__law_great_right : PySem.W.tabIn K "_law_great_right" = none)
    (math : ∀ w : DS, w.lefts.length = w.cells.length → 0 < w.cells.length → w.cells.length ≤ 63 → w.num = 0 → ∃ w2, b_law_ r_law_ w = .rt (.bool true) w2) :
    ∃ (fd : FuncData) (tb : List (Addr × Addr)), (∀ p ∈ tb, ∃ y ∈ ([] : List Str), PySem.W.tabIn K y = some p) ∧ (∀ p ∈ tb, K.lookup p.2 = none) ∧ (∀ P q, TK K P q → ∃ p ∈ tb, p.2 = P) ∧ (∀ (s : Shared) (v : Value), BindsTo s fd ⟨[v], []⟩ [("script", v)]) ∧ ∀ base : Heap, K.In base → base.Ns mainGlobals mg → (∀ p ∈ tb, LamX.TabB base mg p.1 p.2) → FnG l.prog w K mg base 9 fa fd ["script"] (spLaw K) := by
  have e := hfa.symm.trans (PySem.W.mg_of X G a32)
  cases e
  have F0 := fun_mk (st := s_p_is_integer) l0 c0 k0
  have F1 := fun_mk (st := s_p_is_tuple) l1 c1 k1
  have F2 := fun_mk (st := s_p_have_common_row) l2 c2 k2
  have F3 := fun_mk (st := s_p_is_so) l3 c3 k3
  have F4 := fun_mk (st := s_p_rows_with) l4 c4 k4
  have F5 := fun_mk (st := s_l_mixed) l5 c5 k5
  have F6 := fun_mk (st := s_l_begin) l6 c6 k6
  have F7 := fun_mk (st := s_l_power) l7 c7 k7
  have F8 := fun_mk (st := s_l_rises) l8 c8 k8
  have F9 := fun_mk (st := s_l_like) l9 c9 k9
  have F10 := fun_mk (st := s_p_is_many) l10 c10 k10
  have F11 := fun_mk (st := s_p_is_sign) l11 c11 k11
  have F12 := fun_mk (st := s_p_is_set_of_numbers) l12 c12 k12
  have F13 := fun_mk (st := s_p_first_wrong_value) l13 c13 k13
  have F14 := fun_mk (st := s_p_so_of) l14 c14 k14
  have F15 := fun_mk (st := s_p_not_so_of) l15 c15 k15
  have F16 := fun_mk (st := s_l_draw) l16 c16 k16
  have F17 := fun_mk (st := s_p_is_lot) l17 c17 k17
  have F18 := fun_mk (st := s_p_first_wrong_sign) l18 c18 k18
  have F19 := fun_mk (st := s_p_need_many) l19 c19 k19
  have F20 := fun_mk (st := s_p_need_values) l20 c20 k20
  have F21 := fun_mk (st := s_l_worths) l21 c21 k21
  have F22 := fun_mk (st := s_p_need_signs) l22 c22 k22
  have F23 := fun_mk (st := s_p_is_full_lot) l23 c23 k23
  have F24 := fun_mk (st := s_p_rising_signs) l24 c24 k24
  have F25 := fun_mk (st := s_p_all_signs) l25 c25 k25
  have F26 := fun_mk (st := s_p_need_question) l26 c26 k26
  have F27 := fun_mk (st := s_p_question_of) l27 c27 k27
  have F28 := fun_mk (st := s_p_first_unparted) l28 c28 k28
  have F29 := fun_mk (st := s_l_refused) l29 c29 k29
  have F30 := fun_mk (st := s_p_can_be) l30 c30 k30
  have F31 := fun_mk (st := s_l_right) l31 c31 k31
  have F32 := fun_mk (st := s_law_) l32 c32 k32
  have B : Blts mg := ⟨PySem.W.mg_none_of X G z_enumerate, PySem.W.mg_none_of X G z_int, PySem.W.mg_none_of X G z_isinstance, PySem.W.mg_none_of X G z_len, PySem.W.mg_none_of X G z_list, PySem.W.mg_none_of X G z_range, PySem.W.mg_none_of X G z_repr, PySem.W.mg_none_of X G z_set, PySem.W.mg_none_of X G z_sum, PySem.W.mg_none_of X G z_tuple, PySem.W.mg_none_of X G z_type⟩
  have q_MOST_BITS : mg "MOST_BITS" = some (.int 8 t_MOST_BITS) ∧ RelV (.int 8) (.int 8 t_MOST_BITS) := ⟨PySem.W.mg_of X G v_MOST_BITS, ⟨t_MOST_BITS, rfl⟩⟩
  have bB := F6.binds (ps := ["script"]) fun _ _ _ _ _ _ us hl => match us, hl with | [_], _ => rfl
  have hall : ∀ (P : Addr) (q : Str), TK K P q → ∃ e ∈ ([] : List ((Str × Str) × Addr × Addr)), e.2.2 = P ∧ q = qOf e.1 := fun P q z => mk_all (fun m hm => by
    simp only [makers, List.mem_cons, List.not_mem_nil, or_false] at hm
    rcases hm with rfl | rfl | rfl
    · exact .inl ja_is_parting
    · exact .inl ja__law_two
    · exact .inl ja__law_great_right) z
  refine ⟨PySem.W.fnOf "law" "law" (defArgs s_law_) (defBody s_law_) (defScope s_law_) .none kV32 dc32 pm32 an32 cd32 ct32, [], fun p hp => ?_, fun p hp => ?_, fun P q z => ?_, fun s v => .of_eq rfl, fun base _ _ TB => ?_⟩
  · simp only [List.mem_cons, List.not_mem_nil, or_false] at hp
  · simp only [List.mem_cons, List.not_mem_nil, or_false] at hp
  · obtain ⟨e, he, e1, _⟩ := hall P q z
    simp only [List.mem_cons, List.not_mem_nil, or_false] at he
  have R_BadTable : ∀ base : Heap, ErrC l.prog w K mg base "BadTable" := fun base => err_BadTable (P := l.prog) (w := w) (base := base) (PySem.W.mg_of X G ec_BadTable) ⟨⟨_, _, _, _, _, _, _, _, _, _, _, _, _, _, _, ex_BadTable, er_BadTable⟩, es_BadTable, eb_BadTable, ey_BadTable, ew_BadTable⟩ en_BadTable ei_BadTable et_BadTable (fun_mk (st := s_i_BadTable) el_BadTable eo_BadTable ek_BadTable)
  have R_BadParameter : ∀ base : Heap, ErrC l.prog w K mg base "BadParameter" := fun base => err_BadParameter (P := l.prog) (w := w) (base := base) (PySem.W.mg_of X G ec_BadParameter) ⟨⟨_, _, _, _, _, _, _, _, _, _, _, _, _, _, _, ex_BadParameter, er_BadParameter⟩, es_BadParameter, eb_BadParameter, ey_BadParameter, ew_BadParameter⟩ en_BadParameter ei_BadParameter et_BadParameter (fun_mk (st := s_i_BadParameter) el_BadParameter eo_BadParameter ek_BadParameter)
  have Kt_BadParameter : Takers K mg T_ "BadParameter" C_BadParameter := takers_mk (PySem.W.mg_of X G ec_BadParameter) hb_BadParameter hi_BadParameter hy_BadParameter [("BadQuestion", C_BadQuestion), ("BadTable", C_BadTable), ("BadParameter", C_BadParameter)] rfl (by
    intro p hp
    simp only [List.mem_cons, List.not_mem_nil, or_false] at hp
    rcases hp with rfl | rfl | rfl
    · exact PySem.W.mg_of X G ec_BadQuestion
    · exact PySem.W.mg_of X G ec_BadTable
    · exact PySem.W.mg_of X G ec_BadParameter) (by
    intro p hp
    simp only [List.mem_cons, List.not_mem_nil, or_false] at hp
    rcases hp with rfl | rfl | rfl
    · exact hs_BadQuestion_BadParameter.trans (show some false = some (decide (("BadQuestion" : Str) = "BadParameter")) from by decide)
    · exact hs_BadTable_BadParameter.trans (show some false = some (decide (("BadTable" : Str) = "BadParameter")) from by decide)
    · exact hs_BadParameter_BadParameter.trans (show some true = some (decide (("BadParameter" : Str) = "BadParameter")) from by decide))
  have Kh_BadParameter : ErrH K mg "BadParameter" C_BadParameter CS := ⟨PySem.W.mg_of X G ec_BadParameter, PySem.W.mg_of X G ec_S, ⟨nga_BadParameter, ngg_BadParameter, hb_BadParameter, nhd_BadParameter⟩, (by rw [show fldOf "BadParameter" = "value" from by decide]; exact nno_BadParameter), hi_BadParameter, nha_BadParameter, nhn_BadParameter, nht_BadParameter, nhm_BadParameter, kit_mk ni_S ny_S nsu_BadParameter⟩
  have C_p_is_integer := ok_p_is_integer (P := l.prog) (w := w) (base := base) F0 (PySem.W.mg_of X G a0) B 
  have C_p_is_tuple := ok_p_is_tuple (P := l.prog) (w := w) (base := base) F1 (PySem.W.mg_of X G a1) B 
  have C_p_have_common_row := ok_p_have_common_row (P := l.prog) (w := w) (base := base) F2 (PySem.W.mg_of X G a2) B 
  have C_p_is_so := ok_p_is_so (P := l.prog) (w := w) (base := base) F3 (PySem.W.mg_of X G a3) B 
  have C_p_rows_with := ok_p_rows_with (P := l.prog) (w := w) (base := base) F4 (PySem.W.mg_of X G a4) B 
  have C_l_mixed := ok_l_mixed (P := l.prog) (w := w) (base := base) F5 (PySem.W.mg_of X G a5) B 
  have C_l_power := ok_l_power (P := l.prog) (w := w) (base := base) F7 (PySem.W.mg_of X G a7) B 
  have C_l_rises := ok_l_rises (P := l.prog) (w := w) (base := base) F8 (PySem.W.mg_of X G a8) B 
  have C_l_like : CalD l.prog w K mg base 1 "_law_like" s_l_like ["got", "due"] 2 g_l_like := calD F9 (like_okN F9 sc_l_like B.repr_ ⟨_, _, _, _, _, _, _, _, ⟨0, 0, 0, 0⟩, ⟨0, 0, 0, 0⟩, rfl⟩ (by decide) (by decide) (by decide) (by decide) rfl rfl rfl) (PySem.W.mg_of X G a9) (F9.binds (ps := ["got", "due"]) fun _ _ _ _ _ _ us hl => match us, hl with | [_, _], _ => rfl)
  have LK : LikeH l.prog w K mg base := likeH_mk F9 sc_l_like B.repr_ (PySem.W.mg_of X G a9) (F9.binds (ps := ["got", "due"]) fun _ _ _ _ _ _ us hl => match us, hl with | [_, _], _ => rfl) ⟨_, _, _, _, _, _, _, _, ⟨0, 0, 0, 0⟩, ⟨0, 0, 0, 0⟩, rfl⟩ (by decide) (by decide) (by decide) (by decide) rfl rfl rfl
  have C_p_is_many := ok_p_is_many (P := l.prog) (w := w) (base := base) F10 (PySem.W.mg_of X G a10) B C_p_is_integer q_MOST_BITS
  have C_p_is_sign := ok_p_is_sign (P := l.prog) (w := w) (base := base) F11 (PySem.W.mg_of X G a11) B C_p_is_tuple C_p_is_integer
  have C_p_is_set_of_numbers := ok_p_is_set_of_numbers (P := l.prog) (w := w) (base := base) F12 (PySem.W.mg_of X G a12) B C_p_is_integer
  have C_p_first_wrong_value := ok_p_first_wrong_value (P := l.prog) (w := w) (base := base) F13 (PySem.W.mg_of X G a13) B C_p_is_integer
  have C_p_so_of := ok_p_so_of (P := l.prog) (w := w) (base := base) F14 (PySem.W.mg_of X G a14) B C_p_is_so
  have C_p_not_so_of := ok_p_not_so_of (P := l.prog) (w := w) (base := base) F15 (PySem.W.mg_of X G a15) B C_p_is_so
  have C_l_draw := ok_l_draw (P := l.prog) (w := w) (base := base) F16 (PySem.W.mg_of X G a16) B C_l_mixed
  have C_p_is_lot := ok_p_is_lot (P := l.prog) (w := w) (base := base) F17 (PySem.W.mg_of X G a17) B C_p_is_set_of_numbers
  have C_p_first_wrong_sign := ok_p_first_wrong_sign (P := l.prog) (w := w) (base := base) F18 (PySem.W.mg_of X G a18) B C_p_is_sign
  have X_p_need_many := ok_p_need_many (P := l.prog) (w := w) (base := base) F19 (PySem.W.mg_of X G a19) B C_p_is_many (R_BadParameter base)
  have C_p_need_many := X_p_need_many.calm
  have X_p_need_values := ok_p_need_values (P := l.prog) (w := w) (base := base) F20 (PySem.W.mg_of X G a20) B C_p_first_wrong_value C_p_is_tuple (R_BadTable base)
  have C_p_need_values := X_p_need_values.calm
  have C_l_worths := ok_l_worths (P := l.prog) (w := w) (base := base) F21 (PySem.W.mg_of X G a21) B C_l_power C_l_draw
  have X_p_need_signs := ok_p_need_signs (P := l.prog) (w := w) (base := base) F22 (PySem.W.mg_of X G a22) B C_p_first_wrong_sign (R_BadParameter base)
  have C_p_need_signs := X_p_need_signs.calm
  have C_p_is_full_lot := ok_p_is_full_lot (P := l.prog) (w := w) (base := base) F23 (PySem.W.mg_of X G a23) B C_p_is_lot
  have C_p_rising_signs := ok_p_rising_signs (P := l.prog) (w := w) (base := base) F24 (PySem.W.mg_of X G a24) B C_p_need_many
  have C_p_all_signs := ok_p_all_signs (P := l.prog) (w := w) (base := base) F25 (PySem.W.mg_of X G a25) B C_p_need_many
  have C_p_need_question := ok_p_need_question (P := l.prog) (w := w) (base := base) F26 (PySem.W.mg_of X G a26) B C_p_is_full_lot C_p_have_common_row C_p_first_wrong_sign C_p_is_many C_p_is_tuple
  have X_p_question_of := ok_p_question_of (P := l.prog) (w := w) (base := base) F27 (PySem.W.mg_of X G a27) B C_p_rows_with X_p_need_values X_p_need_signs X_p_need_many (R_BadParameter base)
  have C_p_question_of := X_p_question_of.calm
  have C_p_first_unparted := ok_p_first_unparted (P := l.prog) (w := w) (base := base) F28 (PySem.W.mg_of X G a28) B C_p_so_of C_p_not_so_of C_p_need_question
  have C_l_refused := ok_l_refused (P := l.prog) (w := w) (base := base) F29 (PySem.W.mg_of X G a29) B  X_p_question_of Kt_BadParameter Kh_BadParameter LK
  have C_p_can_be := ok_p_can_be (P := l.prog) (w := w) (base := base) F30 (PySem.W.mg_of X G a30) B C_p_first_unparted
  have C_l_right := ok_l_right (P := l.prog) (w := w) (base := base) F31 (PySem.W.mg_of X G a31) B C_l_like C_p_can_be C_p_question_of C_p_rising_signs C_l_rises C_p_all_signs C_l_refused C_l_draw
  exact ok_law_ F32 B F6 (PySem.W.mg_of X G a6) bB C_l_like C_p_can_be C_p_question_of C_p_rising_signs C_l_right C_l_worths C_l_draw C_l_power math
end K03

namespace K03
open L2 PySem PySem.Spec PyProof.Rows DL
theorem is_integer_eq (x lo hi : Int) (w : DS) : g_p_is_integer [.val (.int x), .val (.int lo), .val (.int hi)] w = .ok (.bool (decide (lo ≤ x ∧ x ≤ hi))) w := by
  simp [g_p_is_integer, b_p_is_integer, leD, fnD, sSeq, sSet, sAsg, sRet, sRetN, sDrop, sIf, sFrz, sPass, sBad, sOwn2, sApp, sPutAt, sPutLf, sFor, eV, eC, eBin, eUn, eCall, eTup, eLst, eIf, eAnd, eOr, eNot, isB, tyAnd, tyOr, tyNot, lNil, lCons, aNl, aCs, vD, vS, aPk, pick, eFn, eTyIs, eTyNot, eChain, eSl, pNo, pSo, eOw1, eOw2, eAt, eCl, eLf, eLn, itSeq, itRg1, itRg2, itEn, tyN, opt, DL.setP, DL.setPs, frz1, List.length_cons, List.length_nil, List.cons_append, List.nil_append, List.getElem?_cons_zero, List.getElem?_cons_succ, List.set_cons_zero, List.set_cons_succ, List.replicate, RE.bind_ok, RE.bindS_ok, noEx_ok, Option.bind_some]
  by_cases h1 : lo ≤ x
  · by_cases h2 : x ≤ hi <;> simp [h1, h2]
  · simp [h1]
def mixV (c k : Int) : Int := ((c % 2147483647) * (48271 + 2 * k * k) + 69621 * k + 11) % 2147483647 * 69621 % 2147483629
theorem mulI (a b : Int) (h : (-(2 ^ 64) < a ∧ a < 2 ^ 64) ∨ (-(2 ^ 64) < b ∧ b < 2 ^ 64)) : mulD (.int a) (.int b) = some (.int (a * b)) := if_pos h
theorem fdI (a b : Int) (h : 0 < b ∧ b < 1073741824) : fdivD (.int a) (.int b) = some (.int (a / b)) := if_pos h
theorem mixed_eq (c k : Int) (hk : -(2 ^ 62) < k ∧ k < 2 ^ 62) (w : DS) : g_l_mixed [.val (.int c), .val (.int k)] w = .ok (.int (mixV c k)) w := by
  have h1 : mulD (.int 2) (.int k) = some (.int (2 * k)) := mulI _ _ (.inl (by decide))
  have h2 : mulD (.int (2 * k)) (.int k) = some (.int (2 * k * k)) := mulI _ _ (.inr (by omega))
  have h3 : mulD (.int (c % 2147483647)) (.int (48271 + 2 * k * k)) = some (.int ((c % 2147483647) * (48271 + 2 * k * k))) := mulI _ _ (.inl (by omega))
  have h4 : mulD (.int 69621) (.int k) = some (.int (69621 * k)) := mulI _ _ (.inl (by decide))
  have h5 : ∀ z : Int, mulD (.int (z % 2147483647)) (.int 69621) = some (.int (z % 2147483647 * 69621)) := fun z => mulI _ _ (.inl (by omega))
  simp [g_l_mixed, b_l_mixed, modD, addD, DL.intD, h1, h2, h3, h4, h5, mixV, fnD, sSeq, sSet, sAsg, sRet, sRetN, sDrop, sIf, sFrz, sPass, sBad, sOwn2, sApp, sPutAt, sPutLf, sFor, eV, eC, eBin, eUn, eCall, eTup, eLst, eIf, eAnd, eOr, eNot, isB, tyAnd, tyOr, tyNot, lNil, lCons, aNl, aCs, vD, vS, aPk, pick, eFn, eTyIs, eTyNot, eChain, eSl, pNo, pSo, eOw1, eOw2, eAt, eCl, eLf, eLn, itSeq, itRg1, itRg2, itEn, tyN, opt, DL.setP, DL.setPs, frz1, List.length_cons, List.length_nil, List.cons_append, List.nil_append, List.getElem?_cons_zero, List.getElem?_cons_succ, List.set_cons_zero, List.set_cons_succ, List.replicate, RE.bind_ok, RE.bindS_ok, noEx_ok, Option.bind_some]
theorem mixV_bd (c k : Int) : 0 ≤ mixV c k ∧ mixV c k < 2147483629 := by
  unfold mixV
  omega
theorem mixed_ex : ∃ f : Int → Int → Int, (∀ a b : Int, -(2 ^ 62) < b ∧ b < 2 ^ 62 → ∀ w : DS, g_l_mixed [.val (.int a), .val (.int b)] w = .ok (.int (f a b)) w) ∧ ∀ a b, 0 ≤ f a b ∧ f a b < 2147483629 := ⟨mixV, mixed_eq, mixV_bd⟩
structure Gd (m : Nat) (w : DS) : Prop where
  len : w.lefts.length = w.cells.length
  pos : 0 < w.cells.length
  num : w.num ≤ m
theorem ixN_mod {n : Nat} (h : 0 < n) (k : Nat) : ixN n ((k : Int) % (n : Int)) = some (k % n) := by
  have e : (k : Int) % (n : Int) = ((k % n : Nat) : Int) := rfl
  rw [e]
  unfold ixN
  rw [if_pos (by omega), if_pos (by have := Nat.mod_lt k h; omega)]
  rfl
noncomputable def drF : SM := (sRet (eBin modD (eBin fdivD (eCall DL.intD (lCons (eBin addD (eBin mulD (eV 5) (eC (.int 2147483647))) (eFn g_l_mixed (aCs (vD (eV 5)) (aCs (vD (eBin addD (eC (.int 7)) (eV 2))) aNl)))) lNil)) (eC (.int 64))) (eV 1)))
theorem drF_eq (f : Int → Int → Int) (M at' lim : Int) (s l : SV) (w : DS) (h1 : 0 < lim) (m2 : mulD (.int M) (.int 2147483647) = some (.int (M * 2147483647))) (m1 : g_l_mixed [.val (.int M), .val (.int (7 + at'))] w = .ok (.int (f M (7 + at'))) w) (m3 : ∀ a : Int, fdivD (.int a) (.int 64) = some (.int (a / 64))) (hmod : ∀ a : Int, modD (.int a) (.int lim) = some (.int (a % lim))) :
   drF [.st, .val (.int lim), .val (.int at'), s, l, .val (.int M)] w = .rt (.int ((M * 2147483647 + f M (7 + at')) / 64 % lim)) w := by
  simp [drF, addD, DL.intD, m1, m2, m3, hmod, fnD, sSeq, sSet, sAsg, sRet, sRetN, sDrop, sIf, sFrz, sPass, sBad, sOwn2, sApp, sPutAt, sPutLf, sFor, eV, eC, eBin, eUn, eCall, eTup, eLst, eIf, eAnd, eOr, eNot, isB, tyAnd, tyOr, tyNot, lNil, lCons, aNl, aCs, vD, vS, aPk, pick, eFn, eTyIs, eTyNot, eChain, eSl, pNo, pSo, eOw1, eOw2, eAt, eCl, eLf, eLn, itSeq, itRg1, itRg2, itEn, tyN, opt, DL.setP, DL.setPs, frz1, List.length_cons, List.length_nil, List.cons_append, List.nil_append, List.getElem?_cons_zero, List.getElem?_cons_succ, List.set_cons_zero, List.set_cons_succ, List.replicate, RE.bind_ok, RE.bindS_ok, noEx_ok, Option.bind_some]
noncomputable def drG : SM := (sSeq (sSet 5 (eFn g_l_mixed (aCs (vD (eFn g_l_mixed (aCs (vD (eCl 0 (eV 3))) (aCs (vD (eV 2)) aNl)))) (aCs (vD (eBin addD (eC (.int 40)) (eV 2))) aNl)))) drF)
theorem drG_eq (f : Int → Int → Int) (at' lim cell res : Int) (w : DS) (s : Int) (l : SV) (hc : ixD (.list (w.cells.map PyData.int)) (.int s) = some (.int cell)) (m1 : ∀ w, g_l_mixed [.val (.int cell), .val (.int at')] w = .ok (.int (f cell at')) w) (m2 : ∀ w, g_l_mixed [.val (.int (f cell at')), .val (.int (40 + at'))] w = .ok (.int (f (f cell at') (40 + at'))) w)
    (hF : ∀ s l w, drF [.st, .val (.int lim), .val (.int at'), s, l, .val (.int (f (f cell at') (40 + at')))] w = .rt (.int res) w) : drG [.st, .val (.int lim), .val (.int at'), .val (.int s), l, .un] w = .rt (.int res) w := by
  simp [drG, addD, hc, m1, m2, hF, fnD, sSeq, sSet, sAsg, sRet, sRetN, sDrop, sIf, sFrz, sPass, sBad, sOwn2, sApp, sPutAt, sPutLf, sFor, eV, eC, eBin, eUn, eCall, eTup, eLst, eIf, eAnd, eOr, eNot, isB, tyAnd, tyOr, tyNot, lNil, lCons, aNl, aCs, vD, vS, aPk, pick, eFn, eTyIs, eTyNot, eChain, eSl, pNo, pSo, eOw1, eOw2, eAt, eCl, eLf, eLn, itSeq, itRg1, itRg2, itEn, tyN, opt, DL.setP, DL.setPs, frz1, List.length_cons, List.length_nil, List.cons_append, List.nil_append, List.getElem?_cons_zero, List.getElem?_cons_succ, List.set_cons_zero, List.set_cons_succ, List.replicate, RE.bind_ok, RE.bindS_ok, noEx_ok, Option.bind_some]
theorem draw_split : b_l_draw = (sSeq (sSet 2 (eAt 0)) (sSeq (sPutAt 0 (eBin addD (eV 2) (eC (.int 1)))) (sSeq (sSet 3 (eBin modD (eCall DL.intD (lCons (eV 2) lNil)) (eLn 0))) (sSeq (sSet 4 (eLf 0 (eV 3))) (sSeq (sIf (isB (eBin gtD (eV 4) (eC (.int 0)))) (sSeq (sPutLf 0 (eV 3) (eBin fdivD (eV 4) (eV 1))) (sRet (eBin modD (eCall DL.intD (lCons (eV 4) lNil)) (eV 1)))) sPass) drG))))) := rfl
theorem draw_ok {m : Nat} {w : DS} (g : Gd m w) (hm : m < 2 ^ 60) (lim : Int) (h1 : 0 < lim) (h2 : lim < 1073741824) : ∃ v w2, g_l_draw [.st, .val (.int lim)] w = .ok (.int v) w2 ∧ 0 ≤ v ∧ v < lim ∧ Gd (m + 1) w2 := by
  obtain ⟨len, pos, num⟩ := g
  obtain ⟨mx, m1, mb⟩ := mixed_ex
  have lp : 0 < w.lefts.length := by omega
  have ip := Nat.mod_lt w.num pos
  have il : w.num % w.cells.length < w.lefts.length := by omega
  have ic : ixD (.list (w.cells.map PyData.int)) (.int ((w.num : Int) % (w.cells.length : Int))) = some (.int (w.cells[w.num % w.cells.length]'ip)) := by
    show atI (w.cells.map PyData.int) _ = _
    unfold atI
    rw [List.length_map, ixN_mod pos]
    simp [ip]
  have ix : ixD (.list (w.lefts.map PyData.int)) (.int ((w.num : Int) % (w.cells.length : Int))) = some (.int (w.lefts[w.num % w.cells.length]'il)) := by
    show atI (w.lefts.map PyData.int) _ = _
    unfold atI
    rw [List.length_map, len, ixN_mod pos]
    simp [il]
  have hmod : ∀ a : Int, modD (.int a) (.int lim) = some (.int (a % lim)) := fun a => if_pos h1
  have hdiv : ∀ a : Int, fdivD (.int a) (.int lim) = some (.int (a / lim)) := fun a => if_pos ⟨h1, h2⟩
  have hcl : (0 : Int) < (w.cells.length : Int) := by omega
  have hmc : modD (.int (w.num : Int)) (.int (w.cells.length : Int)) = some (.int ((w.num : Int) % (w.cells.length : Int))) := if_pos hcl
  have n1 : ¬ ((w.num : Int) + 1 < 0) := by omega
  have hs : ∀ a : Int, 0 ≤ a % lim ∧ a % lim < lim := fun a => ⟨Int.emod_nonneg _ (by omega), Int.emod_lt_of_pos _ h1⟩
  have hge : (0 : Int) ≤ (w.num : Int) + 1 := by omega
  have hix : ixN w.lefts.length ((w.num : Int) % (w.cells.length : Int)) = some (w.num % w.cells.length) := by rw [len]; exact ixN_mod pos w.num
  by_cases hl : w.lefts[w.num % w.cells.length]'il > 0
  · refine ⟨(w.lefts[w.num % w.cells.length]'il) % lim, { w with num := w.num + 1, lefts := w.lefts.set (w.num % w.cells.length) ((w.lefts[w.num % w.cells.length]'il) / lim) }, ?_, (hs _).1, (hs _).2, ⟨by simp [len], pos, by show w.num + 1 ≤ m + 1; omega⟩⟩
    simp [g_l_draw, b_l_draw, addD, DL.intD, gtD, hmc, ix, hmod, hdiv, hl, hge, hix, setLf, fnD, sSeq, sSet, sAsg, sRet, sRetN, sDrop, sIf, sFrz, sPass, sBad, sOwn2, sApp, sPutAt, sPutLf, sFor, eV, eC, eBin, eUn, eCall, eTup, eLst, eIf, eAnd, eOr, eNot, isB, tyAnd, tyOr, tyNot, lNil, lCons, aNl, aCs, vD, vS, aPk, pick, eFn, eTyIs, eTyNot, eChain, eSl, pNo, pSo, eOw1, eOw2, eAt, eCl, eLf, eLn, itSeq, itRg1, itRg2, itEn, tyN, opt, DL.setP, DL.setPs, frz1, List.length_cons, List.length_nil, List.cons_append, List.nil_append, List.getElem?_cons_zero, List.getElem?_cons_succ, List.set_cons_zero, List.set_cons_succ, List.replicate, RE.bind_ok, RE.bindS_ok, noEx_ok, Option.bind_some]
  · have k1 : -(2 ^ 62) < (w.num : Int) ∧ (w.num : Int) < 2 ^ 62 := by omega
    have k2 : -(2 ^ 62) < 40 + (w.num : Int) ∧ 40 + (w.num : Int) < 2 ^ 62 := by omega
    have k3 : -(2 ^ 62) < 7 + (w.num : Int) ∧ 7 + (w.num : Int) < 2 ^ 62 := by omega
    have hM := mb (mx (w.cells[w.num % w.cells.length]'ip) (w.num : Int)) (40 + (w.num : Int))
    have m2 : mulD (.int (mx (mx (w.cells[w.num % w.cells.length]'ip) (w.num : Int)) (40 + (w.num : Int)))) (.int 2147483647) = some (.int (mx (mx (w.cells[w.num % w.cells.length]'ip) (w.num : Int)) (40 + (w.num : Int)) * 2147483647)) := mulI _ _ (.inl (by omega))
    have m3 : ∀ a : Int, fdivD (.int a) (.int 64) = some (.int (a / 64)) := fun a => fdI _ _ (by decide)
    refine ⟨(mx (mx (w.cells[w.num % w.cells.length]'ip) (w.num : Int)) (40 + (w.num : Int)) * 2147483647 + mx (mx (mx (w.cells[w.num % w.cells.length]'ip) (w.num : Int)) (40 + (w.num : Int))) (7 + (w.num : Int))) / 64 % lim, { w with num := w.num + 1 }, ?_, (hs _).1, (hs _).2, ⟨len, pos, by show w.num + 1 ≤ m + 1; omega⟩⟩
    have hF : ∀ s l w2, drF [.st, .val (.int lim), .val (.int (w.num : Int)), s, l, .val (.int (mx (mx (w.cells[w.num % w.cells.length]'ip) (w.num : Int)) (40 + (w.num : Int))))] w2 = _ := fun s l w2 => drF_eq mx _ (w.num : Int) lim s l w2 h1 m2 (m1 _ _ k3 _) m3 hmod
    clear m2 m3
    have hG := drG_eq mx (w.num : Int) lim _ _ { w with num := w.num + 1 } ((w.num : Int) % (w.cells.length : Int)) (.val (.int (w.lefts[w.num % w.cells.length]'il))) ic (m1 _ _ k1) (m1 _ _ k2) hF
    clear hF m1 mb ic k1 k2 k3
    simp [g_l_draw, draw_split, addD, DL.intD, gtD, hmc, ix, hl, hge, hG, fnD, sSeq, sSet, sAsg, sRet, sRetN, sDrop, sIf, sFrz, sPass, sBad, sOwn2, sApp, sPutAt, sPutLf, sFor, eV, eC, eBin, eUn, eCall, eTup, eLst, eIf, eAnd, eOr, eNot, isB, tyAnd, tyOr, tyNot, lNil, lCons, aNl, aCs, vD, vS, aPk, pick, eFn, eTyIs, eTyNot, eChain, eSl, pNo, pSo, eOw1, eOw2, eAt, eCl, eLf, eLn, itSeq, itRg1, itRg2, itEn, tyN, opt, DL.setP, DL.setPs, frz1, List.length_cons, List.length_nil, List.cons_append, List.nil_append, List.getElem?_cons_zero, List.getElem?_cons_succ, List.set_cons_zero, List.set_cons_succ, List.replicate, RE.bind_ok, RE.bindS_ok, noEx_ok, Option.bind_some]
end K03

namespace K03
open L2 PySem PySem.Spec PyProof.Rows DL
/-! ## loops on pure lists -/
theorem forL_nx {p : Pat} {body : SM} {d : PyData} {ds : List PyData} {r r1 r2 : List SV} {w w2 : DS} (h1 : setP p d r = some r1) (h2 : body r1 w = .nx r2 w2) : forL p body (d :: ds) r w = forL p body ds r2 w2 := by
  simp only [forL, h1, h2]
theorem forL_rt {p : Pat} {body : SM} {d x : PyData} {ds : List PyData} {r r1 : List SV} {w w2 : DS} (h1 : setP p d r = some r1) (h2 : body r1 w = .rt x w2) : forL p body (d :: ds) r w = .rt x w2 := by
  simp only [forL, h1, h2]
theorem forL_find {α : Type} {p : Pat} {body : SM} {sel : α → PyData} {w : DS} (St : List SV → Prop) (res : α → Option PyData) : ∀ (items : List α), (∀ a ∈ items, ∀ r, St r → ∃ r1, setP p (sel a) r = some r1 ∧ ((∃ d, res a = some d ∧ body r1 w = .rt d w) ∨ (res a = none ∧ ∃ r2, body r1 w = .nx r2 w ∧ St r2))) →
    ∀ r, St r → (∃ d, items.findSome? res = some d ∧ forL p body (items.map sel) r w = .rt d w) ∨ (items.findSome? res = none ∧ ∃ r2, forL p body (items.map sel) r w = .nx r2 w ∧ St r2)
  | [], _, r, hr => .inr ⟨rfl, r, rfl, hr⟩
  | a :: l, h, r, hr => by
    obtain ⟨r1, e1, h1⟩ := h a (List.mem_cons_self ..) r hr
    rcases h1 with ⟨d, e2, e3⟩ | ⟨e2, r2, e3, h2⟩
    · refine .inl ⟨d, by rw [List.findSome?_cons, e2], ?_⟩
      simp only [List.map_cons, forL, e1, e3]
    · have ih := forL_find St res l (fun b hb => h b (List.mem_cons_of_mem _ hb)) r2 h2
      simp only [List.map_cons, forL, e1, e3, List.findSome?_cons, e2]
      exact ih
theorem cmpL_pure {α : Type} {p : Pat} {t : TM} {f : EM} {r : List SV} {w : DS} {sel : α → PyData} (tst : α → Bool) (out : α → PyData) : ∀ (items : List α), (∀ a ∈ items, ∃ r1, setP p (sel a) r = some r1 ∧ t r1 w = .ok (tst a) w ∧ (tst a = true → f r1 w = .ok (out a) w)) →
    cmpL p t f r (items.map sel) w = some ((items.filter tst).map out, w)
  | [], _ => rfl
  | a :: l, h => by
    obtain ⟨r1, e1, e2, e3⟩ := h a (List.mem_cons_self ..)
    have ih := cmpL_pure tst out l fun b hb => h b (List.mem_cons_of_mem _ hb)
    simp only [List.map_cons, cmpL, e1, Option.bind_some, e2, toOpt]
    cases c : tst a with
    | true => simp [e3 c, ih, List.filter_cons, c, toOpt]
    | false => simp [ih, List.filter_cons, c]
/-! ## data of questions -/
abbrev rws (l : List Int) : PyData := .tuple (l.map .int)
def sg (p : Int × Int) : PyData := .tuple [.int p.1, .int p.2]
abbrev sgs (l : List (Int × Int)) : PyData := .tuple (l.map sg)
def qd (n : Int) (ss : List (Int × Int)) (ys ns : List Int) : PyData := .tuple [.int n, sgs ss, rws ys, rws ns]
theorem eqI (a b : Int) : eqD (.int a) (.int b) = some (.bool (decide (a = b))) := by
  unfold eqD
  simp [SeqAt.shaped, PyData.canLay0, PyData.depth, PyData.eqv]
  rw [Bool.eq_iff_iff]
  simp
theorem neI (a b : Int) : neD (.int a) (.int b) = some (.bool (!decide (a = b))) := by
  unfold neD
  simp [SeqAt.shaped, PyData.canLay0, PyData.depth, PyData.eqv]
  rw [Bool.eq_iff_iff]
  simp
theorem ixN_nat {n k : Nat} (h : k < n) : ixN n ((k : Nat) : Int) = some k := by
  unfold ixN
  rw [if_pos (by omega), if_pos (by omega)]
  rfl
theorem atI_nat {l : List V} {k : Nat} {v : V} (h : l[k]? = some v) : atI l ((k : Nat) : Int) = some v := by
  have hk := (List.getElem?_eq_some_iff.mp h).1
  unfold atI
  rw [ixN_nat hk]
  exact h
theorem ixT_nat {l : List PyData} {k : Nat} {v : PyData} (h : l[k]? = some v) : ixD (.tuple l) (.int ((k : Nat) : Int)) = some v := by
  have hk := (List.getElem?_eq_some_iff.mp h).1
  show atI l _ = _
  unfold atI
  rw [ixN_nat hk]
  exact h
theorem ixL_nat {l : List PyData} {k : Nat} {v : PyData} (h : l[k]? = some v) : ixD (.list l) (.int ((k : Nat) : Int)) = some v := by
  have hk := (List.getElem?_eq_some_iff.mp h).1
  show atI l _ = _
  unfold atI
  rw [ixN_nat hk]
  exact h
theorem ixT0 (a : PyData) (l : List PyData) : ixD (.tuple (a :: l)) (.int 0) = some a := ixT_nat (k := 0) rfl
theorem ixT1 (a b : PyData) (l : List PyData) : ixD (.tuple (a :: b :: l)) (.int 1) = some b := ixT_nat (k := 1) rfl
theorem ixT2 (a b c : PyData) (l : List PyData) : ixD (.tuple (a :: b :: c :: l)) (.int 2) = some c := ixT_nat (k := 2) rfl
theorem ixT3 (a b c d : PyData) (l : List PyData) : ixD (.tuple (a :: b :: c :: d :: l)) (.int 3) = some d := ixT_nat (k := 3) rfl
theorem is_tuple_eq (l : List PyData) (n : Int) (w : DS) : g_p_is_tuple [.val (.tuple l), .val (.int n)] w = .ok (.bool (decide ((l.length : Int) = n))) w := by
  simp [g_p_is_tuple, b_p_is_tuple, lenD, eqI, fnD, sSeq, sSet, sAsg, sRet, sRetN, sDrop, sIf, sFrz, sPass, sBad, sOwn2, sApp, sPutAt, sPutLf, sFor, eV, eC, eBin, eUn, eCall, eTup, eLst, eIf, eAnd, eOr, eNot, isB, tyAnd, tyOr, tyNot, lNil, lCons, aNl, aCs, vD, vS, aPk, pick, eFn, eTyIs, eTyNot, eChain, eSl, pNo, pSo, eOw1, eOw2, eAt, eCl, eLf, eLn, itSeq, itRg1, itRg2, itEn, tyN, opt, DL.setP, DL.setPs, frz1, List.length_cons, List.length_nil, List.cons_append, List.nil_append, List.getElem?_cons_zero, List.getElem?_cons_succ, List.set_cons_zero, List.set_cons_succ, List.replicate, RE.bind_ok, RE.bindS_ok, noEx_ok, Option.bind_some]
theorem is_many_eq (n : Int) (w : DS) : g_p_is_many [.val (.int n)] w = .ok (.bool (decide (1 ≤ n ∧ n ≤ 8))) w := by
  simp [g_p_is_many, b_p_is_many, is_integer_eq, fnD, sSeq, sSet, sAsg, sRet, sRetN, sDrop, sIf, sFrz, sPass, sBad, sOwn2, sApp, sPutAt, sPutLf, sFor, eV, eC, eBin, eUn, eCall, eTup, eLst, eIf, eAnd, eOr, eNot, isB, tyAnd, tyOr, tyNot, lNil, lCons, aNl, aCs, vD, vS, aPk, pick, eFn, eTyIs, eTyNot, eChain, eSl, pNo, pSo, eOw1, eOw2, eAt, eCl, eLf, eLn, itSeq, itRg1, itRg2, itEn, tyN, opt, DL.setP, DL.setPs, frz1, List.length_cons, List.length_nil, List.cons_append, List.nil_append, List.getElem?_cons_zero, List.getElem?_cons_succ, List.set_cons_zero, List.set_cons_succ, List.replicate, RE.bind_ok, RE.bindS_ok, noEx_ok, Option.bind_some]
theorem shlI (a b : Int) (h : 0 ≤ b ∧ b ≤ 1000000 ∧ a.natAbs < 2 ^ 64) : shlD (.int a) (.int b) = some (.int (a * 2 ^ b.toNat)) := if_pos h
theorem shrI (a b : Int) (h : 0 ≤ b) : shrD (.int a) (.int b) = some (.int (a / 2 ^ b.toNat)) := if_pos h
theorem is_sign_eq (n : Int) (p : Int × Int) (w : DS) : g_p_is_sign [.val (.int n), .val (sg p)] w = .ok (.bool (decide ((0 ≤ p.1 ∧ p.1 ≤ n - 1) ∧ (0 ≤ p.2 ∧ p.2 ≤ 1)))) w := by
  simp [g_p_is_sign, b_p_is_sign, sg, is_tuple_eq, is_integer_eq, subD, ixT0, ixT1, fnD, sSeq, sSet, sAsg, sRet, sRetN, sDrop, sIf, sFrz, sPass, sBad, sOwn2, sApp, sPutAt, sPutLf, sFor, eV, eC, eBin, eUn, eCall, eTup, eLst, eIf, eAnd, eOr, eNot, isB, tyAnd, tyOr, tyNot, lNil, lCons, aNl, aCs, vD, vS, aPk, pick, eFn, eTyIs, eTyNot, eChain, eSl, pNo, pSo, eOw1, eOw2, eAt, eCl, eLf, eLn, itSeq, itRg1, itRg2, itEn, tyN, opt, DL.setP, DL.setPs, frz1, List.length_cons, List.length_nil, List.cons_append, List.nil_append, List.getElem?_cons_zero, List.getElem?_cons_succ, List.set_cons_zero, List.set_cons_succ, List.replicate, RE.bind_ok, RE.bindS_ok, noEx_ok, Option.bind_some]
  by_cases h : 0 ≤ p.1 ∧ p.1 ≤ n - 1
  · simp [h]
  · simp [h]
def bt (x s : Int) : Int := x / 2 ^ s.toNat % 2
def isSo (p : Int × Int) (x : Int) : Bool := decide (bt x p.1 = p.2)
theorem and1 (y : Int) (h : 0 ≤ y) : Builtin.bitAnd y 1 = y % 2 := by
  have e : Builtin.bitAnd y 1 = ((y.toNat &&& 1 : Nat) : Int) := by simp [Builtin.bitAnd, h]
  rw [e, Nat.and_one_is_mod]
  omega
theorem is_so_eq (p : Int × Int) (x : Int) (h : 0 ≤ p.1) (hx : 0 ≤ x) (w : DS) : g_p_is_so [.val (sg p), .val (.int x)] w = .ok (.bool (isSo p x)) w := by
  have e := shrI x p.1 h
  have e2 := and1 (x / 2 ^ p.1.toNat) (Int.ediv_nonneg hx (Int.pow_nonneg (by decide)))
  simp [g_p_is_so, b_p_is_so, sg, ixT0, ixT1, e, andD, e2, eqI, isSo, bt, fnD, sSeq, sSet, sAsg, sRet, sRetN, sDrop, sIf, sFrz, sPass, sBad, sOwn2, sApp, sPutAt, sPutLf, sFor, eV, eC, eBin, eUn, eCall, eTup, eLst, eIf, eAnd, eOr, eNot, isB, tyAnd, tyOr, tyNot, lNil, lCons, aNl, aCs, vD, vS, aPk, pick, eFn, eTyIs, eTyNot, eChain, eSl, pNo, pSo, eOw1, eOw2, eAt, eCl, eLf, eLn, itSeq, itRg1, itRg2, itEn, tyN, opt, DL.setP, DL.setPs, frz1, List.length_cons, List.length_nil, List.cons_append, List.nil_append, List.getElem?_cons_zero, List.getElem?_cons_succ, List.set_cons_zero, List.set_cons_succ, List.replicate, RE.bind_ok, RE.bindS_ok, noEx_ok, Option.bind_some]
  congr
/-! ## powers, bits -/
theorem mdI (a b : Int) (h : 0 < b) : modD (.int a) (.int b) = some (.int (a % b)) := if_pos h
theorem rgD_succ (lo : Int) (n : Nat) : rgD lo (n + 1) = .int lo :: rgD (lo + 1) n := by
  unfold rgD
  rw [List.range_succ_eq_map, List.map_cons, List.map_map]
  congr 1
  · simp
  · refine List.map_congr_left fun i _ => ?_
    show PyData.int (lo + ((i + 1 : Nat) : Int)) = .int (lo + 1 + i)
    congr 1
    omega
theorem power_loop (a : SV) (w : DS) : ∀ (n : Nat) (lo f : Int) (s : SV), ∃ s2, forL (.nm 2) (sSet 1 (eBin addD (eV 1) (eV 1))) (rgD lo n) [a, .val (.int f), s] w = .nx [a, .val (.int (f * 2 ^ n)), s2] w
  | 0, lo, f, s => ⟨s, by simp [rgD, forL]⟩
  | n + 1, lo, f, s => by
    obtain ⟨s2, ih⟩ := power_loop a w n (lo + 1) (f + f) (.val (.int lo))
    refine ⟨s2, ?_⟩
    rw [rgD_succ, forL_nx (r1 := [a, .val (.int f), .val (.int lo)]) (r2 := [a, .val (.int (f + f)), .val (.int lo)]) (w2 := w) rfl (by simp [addD, fnD, sSeq, sSet, sAsg, sRet, sRetN, sDrop, sIf, sFrz, sPass, sBad, sOwn2, sApp, sPutAt, sPutLf, sFor, eV, eC, eBin, eUn, eCall, eTup, eLst, eIf, eAnd, eOr, eNot, isB, tyAnd, tyOr, tyNot, lNil, lCons, aNl, aCs, vD, vS, aPk, pick, eFn, eTyIs, eTyNot, eChain, eSl, pNo, pSo, eOw1, eOw2, eAt, eCl, eLf, eLn, itSeq, itRg1, itRg2, itEn, tyN, opt, DL.setP, DL.setPs, frz1, List.length_cons, List.length_nil, List.cons_append, List.nil_append, List.getElem?_cons_zero, List.getElem?_cons_succ, List.set_cons_zero, List.set_cons_succ, List.replicate, RE.bind_ok, RE.bindS_ok, noEx_ok, Option.bind_some]), ih]
    congr 3
    rw [Int.pow_succ, ← Int.two_mul]
    congr 1
    rw [Int.mul_comm 2 f, Int.mul_assoc, Int.mul_comm 2]
theorem power_eq (n : Int) (h : 0 ≤ n ∧ n ≤ 100) (w : DS) : g_l_power [.val (.int n)] w = .ok (.int (2 ^ n.toNat)) w := by
  obtain ⟨s2, e⟩ := power_loop (.val (.int n)) w n.toNat 0 1 .un
  have c : -16777216 ≤ n ∧ n ≤ 16777216 := by omega
  have e2 : forL (.nm 2) (sSet 1 (eBin addD (eV 1) (eV 1))) (rgD 0 n.toNat) [.val (.int n), .val (.int 1), .un] w = _ := e
  generalize hb : sSet 1 (eBin addD (eV 1) (eV 1)) = bd at e2
  simp only [g_l_power, b_l_power, hb]
  simp [c, e2, fnD, sSeq, sSet, sAsg, sRet, sRetN, sDrop, sIf, sFrz, sPass, sBad, sOwn2, sApp, sPutAt, sPutLf, sFor, eV, eC, eBin, eUn, eCall, eTup, eLst, eIf, eAnd, eOr, eNot, isB, tyAnd, tyOr, tyNot, lNil, lCons, aNl, aCs, vD, vS, aPk, pick, eFn, eTyIs, eTyNot, eChain, eSl, pNo, pSo, eOw1, eOw2, eAt, eCl, eLf, eLn, itSeq, itRg1, itRg2, itEn, tyN, opt, DL.setP, DL.setPs, frz1, List.length_cons, List.length_nil, List.cons_append, List.nil_append, List.getElem?_cons_zero, List.getElem?_cons_succ, List.set_cons_zero, List.set_cons_succ, List.replicate, RE.bind_ok, RE.bindS_ok, noEx_ok, Option.bind_some]
theorem bit_loop (a : SV) (w : DS) : ∀ (n : Nat) (lo x : Int) (s : SV), ∃ s2, forL (.nm 2) (sSet 0 (eBin fdivD (eV 0) (eC (.int 2)))) (rgD lo n) [.val (.int x), a, s] w = .nx [.val (.int (x / 2 ^ n)), a, s2] w
  | 0, lo, x, s => ⟨s, by simp [rgD, forL]⟩
  | n + 1, lo, x, s => by
    obtain ⟨s2, ih⟩ := bit_loop a w n (lo + 1) (x / 2) (.val (.int lo))
    refine ⟨s2, ?_⟩
    have d2 : fdivD (.int x) (.int 2) = some (.int (x / 2)) := fdI _ _ (by decide)
    rw [rgD_succ, forL_nx (r1 := [.val (.int x), a, .val (.int lo)]) (r2 := [.val (.int (x / 2)), a, .val (.int lo)]) (w2 := w) rfl (by simp [d2, fnD, sSeq, sSet, sAsg, sRet, sRetN, sDrop, sIf, sFrz, sPass, sBad, sOwn2, sApp, sPutAt, sPutLf, sFor, eV, eC, eBin, eUn, eCall, eTup, eLst, eIf, eAnd, eOr, eNot, isB, tyAnd, tyOr, tyNot, lNil, lCons, aNl, aCs, vD, vS, aPk, pick, eFn, eTyIs, eTyNot, eChain, eSl, pNo, pSo, eOw1, eOw2, eAt, eCl, eLf, eLn, itSeq, itRg1, itRg2, itEn, tyN, opt, DL.setP, DL.setPs, frz1, List.length_cons, List.length_nil, List.cons_append, List.nil_append, List.getElem?_cons_zero, List.getElem?_cons_succ, List.set_cons_zero, List.set_cons_succ, List.replicate, RE.bind_ok, RE.bindS_ok, noEx_ok, Option.bind_some]), ih]
    congr 3
    rw [Int.pow_succ, Int.mul_comm, Int.ediv_ediv_of_nonneg (by decide)]
end K03

namespace K03
open L2 PySem PySem.Spec PyProof.Rows DL
theorem comp_eq {α : Type} {vs : List Nat} {fi : IM} {p : Pat} {t : TM} {f : EM} {r : List SV} {w : DS} {items : List α} {sel : α → PyData} (tst : α → Bool) (out : α → PyData) (hi : fi r w = .ok (items.map sel) w)
    (h : ∀ a ∈ items, ∃ r1, setP p (sel a) (wipeR r vs) = some r1 ∧ t r1 w = .ok (tst a) w ∧ (tst a = true → f r1 w = .ok (out a) w)) (hl : items.length ≤ szL) : eComp vs fi p t f r w = .ok (.list ((items.filter tst).map out)) w := by
  have e := cmpL_pure tst out items h
  have l : ((items.filter tst).map out).length ≤ szL := by
    rw [List.length_map]
    exact Nat.le_trans (List.length_filter_le _ _) hl
  unfold eComp
  rw [hi]
  show (match cmpL p t f (wipeR r vs) (items.map sel) w with
    | some (ys, w2) => if ys.length ≤ szL then RE.ok (PyData.list ys) w2 else RE.bad
    | none => RE.bad) = _
  rw [e]
  exact if_pos l
theorem toInts_map : ∀ l : List Int, toInts (l.map PyData.int) = some l
  | [] => rfl
  | a :: l => by
    show (toInts (l.map PyData.int)).map (a :: ·) = _
    rw [toInts_map l]
    rfl
def ix : Nat → List (Int × Int) → List (Nat × (Int × Int))
  | _, [] => []
  | k, p :: r => (k, p) :: ix (k + 1) r
def ixS (a : Nat × (Int × Int)) : PyData := .tuple [.int (a.1 : Nat), sg a.2]
theorem enD_ix : ∀ (k : Nat) (ss : List (Int × Int)), enD k (ss.map sg) = (ix k ss).map ixS
  | _, [] => rfl
  | k, p :: r => by
    show _ :: enD (k + 1) (r.map sg) = _
    rw [enD_ix (k + 1) r]
    rfl
theorem ix_len : ∀ (k : Nat) (ss : List (Int × Int)), (ix k ss).length = ss.length
  | _, [] => rfl
  | k, p :: r => by show (ix (k + 1) r).length + 1 = _; rw [ix_len (k + 1) r]; rfl
theorem ix_mem : ∀ (k : Nat) (ss : List (Int × Int)) (a : Nat × (Int × Int)), a ∈ ix k ss → a.2 ∈ ss ∧ a.1 < k + ss.length
  | _, [], _, h => by cases h
  | k, p :: r, a, h => by
    rcases List.mem_cons.mp h with e | e
    · subst e
      exact ⟨List.mem_cons_self .., by rw [List.length_cons]; show k < _; omega⟩
    · obtain ⟨h1, h2⟩ := ix_mem (k + 1) r a e
      exact ⟨List.mem_cons_of_mem _ h1, by rw [List.length_cons]; omega⟩
def mk (f : Int × Int → Bool) : List (Int × Int) → Nat
  | [] => 0
  | p :: r => (if f p then 1 else 0) + 2 * mk f r
theorem mk_sum (f : Int × Int → Bool) : ∀ (k : Nat) (ss : List (Int × Int)), (((ix k ss).filter fun a => f a.2).map fun a => (1 * 2 ^ a.1 : Int)).sum = 2 ^ k * (mk f ss : Int)
  | k, [] => by simp [ix, mk]
  | k, p :: r => by
    have ih := mk_sum f (k + 1) r
    have e : ix k (p :: r) = (k, p) :: ix (k + 1) r := rfl
    rw [e, List.filter_cons]
    have pw : (2 : Int) ^ (k + 1) = 2 ^ k * 2 := Int.pow_succ ..
    cases h : f p with
    | true =>
      simp only [h, if_true, List.map_cons, List.sum_cons, ih, mk, pw]
      push_cast
      rw [Int.mul_add, Int.mul_assoc]
      omega
    | false =>
      simp only [h, Bool.false_eq_true, if_false, ih, mk, pw]
      push_cast
      rw [Int.mul_assoc, Int.zero_add]
theorem and_step (a b x y : Nat) (ha : a ≤ 1) (hb : b ≤ 1) : ((a + 2 * x) &&& (b + 2 * y)) = 0 ↔ (¬ (a = 1 ∧ b = 1)) ∧ (x &&& y) = 0 := by
  have h2 : ((a + 2 * x) &&& (b + 2 * y)) / 2 = (x &&& y) := by
    rw [Nat.and_div_two]
    congr 1 <;> omega
  have h1 : ((a + 2 * x) &&& (b + 2 * y)) % 2 = a &&& b := by
    have am := Nat.and_mod_two_pow (a := a + 2 * x) (b := b + 2 * y) (n := 1)
    rw [Nat.pow_one] at am
    rw [am]
    have e1 : (a + 2 * x) % 2 = a := by omega
    have e2 : (b + 2 * y) % 2 = b := by omega
    rw [e1, e2]
  have h3 : (a &&& b) = 0 ↔ ¬ (a = 1 ∧ b = 1) := by
    have : a = 0 ∨ a = 1 := by omega
    have : b = 0 ∨ b = 1 := by omega
    rcases ‹a = 0 ∨ a = 1› with rfl | rfl <;> rcases ‹b = 0 ∨ b = 1› with rfl | rfl <;> decide
  constructor
  · intro h
    rw [h] at h1 h2
    exact ⟨h3.mp (by simpa using h1.symm), by simpa using h2.symm⟩
  · rintro ⟨k1, k2⟩
    rw [k2] at h2
    rw [h3.mpr k1] at h1
    omega
theorem mk_and (f g : Int × Int → Bool) : ∀ ss : List (Int × Int), (mk f ss &&& mk g ss) = 0 ↔ (ss.any fun p => f p && g p) = false
  | [] => by simp [mk]
  | p :: r => by
    have ih := mk_and f g r
    show ((if f p then 1 else 0) + 2 * mk f r &&& (if g p then 1 else 0) + 2 * mk g r) = 0 ↔ _
    rw [and_step _ _ _ _ (by split <;> omega) (by split <;> omega), ih, List.any_cons, Bool.or_eq_false_iff]
    cases f p <;> cases g p <;> simp
theorem wipe4 (a b : SV) : wipeR [noOwn a, noOwn b, .un, .un] [2, 3] = [noOwn (noOwn a), noOwn (noOwn b), .un, .un] := rfl
theorem so_of_eq (ss : List (Int × Int)) (x : Int) (hs : ∀ p ∈ ss, 0 ≤ p.1) (hx : 0 ≤ x) (hl : ss.length ≤ 1000) (w : DS) : g_p_so_of [.val (sgs ss), .val (.int x)] w = .ok (.int (mk (fun p => isSo p x) ss : Nat)) w := by
  have e := comp_eq (vs := [2, 3]) (fi := itEn (eV 0)) (p := .tp [.nm 2, .nm 3]) (t := isB (eFn g_p_is_so (aCs (vD (eV 3)) (aCs (vD (eV 1)) aNl)))) (f := eBin shlD (eC (.int 1)) (eV 2)) (r := [.val (sgs ss), .val (.int x), .un, .un]) (w := w) (items := ix 0 ss) (sel := ixS)
    (fun a => isSo a.2 x) (fun a => .int (1 * 2 ^ a.1)) (by simp [enD_ix, fnD, sSeq, sSet, sAsg, sRet, sRetN, sDrop, sIf, sFrz, sPass, sBad, sOwn2, sApp, sPutAt, sPutLf, sFor, eV, eC, eBin, eUn, eCall, eTup, eLst, eIf, eAnd, eOr, eNot, isB, tyAnd, tyOr, tyNot, lNil, lCons, aNl, aCs, vD, vS, aPk, pick, eFn, eTyIs, eTyNot, eChain, eSl, pNo, pSo, eOw1, eOw2, eAt, eCl, eLf, eLn, itSeq, itRg1, itRg2, itEn, tyN, opt, DL.setP, DL.setPs, frz1, List.length_cons, List.length_nil, List.cons_append, List.nil_append, List.getElem?_cons_zero, List.getElem?_cons_succ, List.set_cons_zero, List.set_cons_succ, List.replicate, RE.bind_ok, RE.bindS_ok, noEx_ok, Option.bind_some]) (fun a ha => ⟨[.val (sgs ss), .val (.int x), .val (.int (a.1 : Nat)), .val (sg a.2)], rfl, by
      have h := is_so_eq a.2 x (hs _ (ix_mem 0 ss a ha).1) hx w
      simp [h, fnD, sSeq, sSet, sAsg, sRet, sRetN, sDrop, sIf, sFrz, sPass, sBad, sOwn2, sApp, sPutAt, sPutLf, sFor, eV, eC, eBin, eUn, eCall, eTup, eLst, eIf, eAnd, eOr, eNot, isB, tyAnd, tyOr, tyNot, lNil, lCons, aNl, aCs, vD, vS, aPk, pick, eFn, eTyIs, eTyNot, eChain, eSl, pNo, pSo, eOw1, eOw2, eAt, eCl, eLf, eLn, itSeq, itRg1, itRg2, itEn, tyN, opt, DL.setP, DL.setPs, frz1, List.length_cons, List.length_nil, List.cons_append, List.nil_append, List.getElem?_cons_zero, List.getElem?_cons_succ, List.set_cons_zero, List.set_cons_succ, List.replicate, RE.bind_ok, RE.bindS_ok, noEx_ok, Option.bind_some], fun _ => by
      have h := shlI 1 (a.1 : Nat) ⟨by omega, by have := (ix_mem 0 ss a ha).2; omega, by decide⟩
      simp [h, fnD, sSeq, sSet, sAsg, sRet, sRetN, sDrop, sIf, sFrz, sPass, sBad, sOwn2, sApp, sPutAt, sPutLf, sFor, eV, eC, eBin, eUn, eCall, eTup, eLst, eIf, eAnd, eOr, eNot, isB, tyAnd, tyOr, tyNot, lNil, lCons, aNl, aCs, vD, vS, aPk, pick, eFn, eTyIs, eTyNot, eChain, eSl, pNo, pSo, eOw1, eOw2, eAt, eCl, eLf, eLn, itSeq, itRg1, itRg2, itEn, tyN, opt, DL.setP, DL.setPs, frz1, List.length_cons, List.length_nil, List.cons_append, List.nil_append, List.getElem?_cons_zero, List.getElem?_cons_succ, List.set_cons_zero, List.set_cons_succ, List.replicate, RE.bind_ok, RE.bindS_ok, noEx_ok, Option.bind_some]⟩) (by rw [ix_len]; exact Nat.le_trans hl (by decide))
  have e2 : ((ix 0 ss).filter fun a => isSo a.2 x).map (fun a => PyData.int (1 * 2 ^ a.1)) = (((ix 0 ss).filter fun a => isSo a.2 x).map fun a => (1 * 2 ^ a.1 : Int)).map PyData.int := by rw [List.map_map]; rfl
  rw [e2] at e
  have sm := mk_sum (fun p => isSo p x) 0 ss
  generalize hL : (((ix 0 ss).filter fun a => isSo a.2 x).map fun a => (1 * 2 ^ a.1 : Int)) = L at e sm
  generalize hb : eComp [2, 3] (itEn (eV 0)) (.tp [.nm 2, .nm 3]) (isB (eFn g_p_is_so (aCs (vD (eV 3)) (aCs (vD (eV 1)) aNl)))) (eBin shlD (eC (.int 1)) (eV 2)) = bd at e
  simp only [g_p_so_of, b_p_so_of, hb]
  simp [sumD, toInts_map, e, sm, fnD, sSeq, sSet, sAsg, sRet, sRetN, sDrop, sIf, sFrz, sPass, sBad, sOwn2, sApp, sPutAt, sPutLf, sFor, eV, eC, eBin, eUn, eCall, eTup, eLst, eIf, eAnd, eOr, eNot, isB, tyAnd, tyOr, tyNot, lNil, lCons, aNl, aCs, vD, vS, aPk, pick, eFn, eTyIs, eTyNot, eChain, eSl, pNo, pSo, eOw1, eOw2, eAt, eCl, eLf, eLn, itSeq, itRg1, itRg2, itEn, tyN, opt, DL.setP, DL.setPs, frz1, List.length_cons, List.length_nil, List.cons_append, List.nil_append, List.getElem?_cons_zero, List.getElem?_cons_succ, List.set_cons_zero, List.set_cons_succ, List.replicate, RE.bind_ok, RE.bindS_ok, noEx_ok, Option.bind_some]
theorem not_so_of_eq (ss : List (Int × Int)) (x : Int) (hs : ∀ p ∈ ss, 0 ≤ p.1) (hx : 0 ≤ x) (hl : ss.length ≤ 1000) (w : DS) : g_p_not_so_of [.val (sgs ss), .val (.int x)] w = .ok (.int (mk (fun p => !isSo p x) ss : Nat)) w := by
  have e := comp_eq (vs := [2, 3]) (fi := itEn (eV 0)) (p := .tp [.nm 2, .nm 3]) (t := tyNot (isB (eFn g_p_is_so (aCs (vD (eV 3)) (aCs (vD (eV 1)) aNl))))) (f := eBin shlD (eC (.int 1)) (eV 2)) (r := [.val (sgs ss), .val (.int x), .un, .un]) (w := w) (items := ix 0 ss) (sel := ixS)
    (fun a => !isSo a.2 x) (fun a => .int (1 * 2 ^ a.1)) (by simp [enD_ix, fnD, sSeq, sSet, sAsg, sRet, sRetN, sDrop, sIf, sFrz, sPass, sBad, sOwn2, sApp, sPutAt, sPutLf, sFor, eV, eC, eBin, eUn, eCall, eTup, eLst, eIf, eAnd, eOr, eNot, isB, tyAnd, tyOr, tyNot, lNil, lCons, aNl, aCs, vD, vS, aPk, pick, eFn, eTyIs, eTyNot, eChain, eSl, pNo, pSo, eOw1, eOw2, eAt, eCl, eLf, eLn, itSeq, itRg1, itRg2, itEn, tyN, opt, DL.setP, DL.setPs, frz1, List.length_cons, List.length_nil, List.cons_append, List.nil_append, List.getElem?_cons_zero, List.getElem?_cons_succ, List.set_cons_zero, List.set_cons_succ, List.replicate, RE.bind_ok, RE.bindS_ok, noEx_ok, Option.bind_some]) (fun a ha => ⟨[.val (sgs ss), .val (.int x), .val (.int (a.1 : Nat)), .val (sg a.2)], rfl, by
      have h := is_so_eq a.2 x (hs _ (ix_mem 0 ss a ha).1) hx w
      simp [h, fnD, sSeq, sSet, sAsg, sRet, sRetN, sDrop, sIf, sFrz, sPass, sBad, sOwn2, sApp, sPutAt, sPutLf, sFor, eV, eC, eBin, eUn, eCall, eTup, eLst, eIf, eAnd, eOr, eNot, isB, tyAnd, tyOr, tyNot, lNil, lCons, aNl, aCs, vD, vS, aPk, pick, eFn, eTyIs, eTyNot, eChain, eSl, pNo, pSo, eOw1, eOw2, eAt, eCl, eLf, eLn, itSeq, itRg1, itRg2, itEn, tyN, opt, DL.setP, DL.setPs, frz1, List.length_cons, List.length_nil, List.cons_append, List.nil_append, List.getElem?_cons_zero, List.getElem?_cons_succ, List.set_cons_zero, List.set_cons_succ, List.replicate, RE.bind_ok, RE.bindS_ok, noEx_ok, Option.bind_some], fun _ => by
      have h := shlI 1 (a.1 : Nat) ⟨by omega, by have := (ix_mem 0 ss a ha).2; omega, by decide⟩
      simp [h, fnD, sSeq, sSet, sAsg, sRet, sRetN, sDrop, sIf, sFrz, sPass, sBad, sOwn2, sApp, sPutAt, sPutLf, sFor, eV, eC, eBin, eUn, eCall, eTup, eLst, eIf, eAnd, eOr, eNot, isB, tyAnd, tyOr, tyNot, lNil, lCons, aNl, aCs, vD, vS, aPk, pick, eFn, eTyIs, eTyNot, eChain, eSl, pNo, pSo, eOw1, eOw2, eAt, eCl, eLf, eLn, itSeq, itRg1, itRg2, itEn, tyN, opt, DL.setP, DL.setPs, frz1, List.length_cons, List.length_nil, List.cons_append, List.nil_append, List.getElem?_cons_zero, List.getElem?_cons_succ, List.set_cons_zero, List.set_cons_succ, List.replicate, RE.bind_ok, RE.bindS_ok, noEx_ok, Option.bind_some]⟩) (by rw [ix_len]; exact Nat.le_trans hl (by decide))
  have e2 : ((ix 0 ss).filter fun a => !isSo a.2 x).map (fun a => PyData.int (1 * 2 ^ a.1)) = (((ix 0 ss).filter fun a => !isSo a.2 x).map fun a => (1 * 2 ^ a.1 : Int)).map PyData.int := by rw [List.map_map]; rfl
  rw [e2] at e
  have sm := mk_sum (fun p => !isSo p x) 0 ss
  generalize hL : (((ix 0 ss).filter fun a => !isSo a.2 x).map fun a => (1 * 2 ^ a.1 : Int)) = L at e sm
  generalize hb : eComp [2, 3] (itEn (eV 0)) (.tp [.nm 2, .nm 3]) (tyNot (isB (eFn g_p_is_so (aCs (vD (eV 3)) (aCs (vD (eV 1)) aNl))))) (eBin shlD (eC (.int 1)) (eV 2)) = bd at e
  simp only [g_p_not_so_of, b_p_not_so_of, hb]
  simp [sumD, toInts_map, e, sm, fnD, sSeq, sSet, sAsg, sRet, sRetN, sDrop, sIf, sFrz, sPass, sBad, sOwn2, sApp, sPutAt, sPutLf, sFor, eV, eC, eBin, eUn, eCall, eTup, eLst, eIf, eAnd, eOr, eNot, isB, tyAnd, tyOr, tyNot, lNil, lCons, aNl, aCs, vD, vS, aPk, pick, eFn, eTyIs, eTyNot, eChain, eSl, pNo, pSo, eOw1, eOw2, eAt, eCl, eLf, eLn, itSeq, itRg1, itRg2, itEn, tyN, opt, DL.setP, DL.setPs, frz1, List.length_cons, List.length_nil, List.cons_append, List.nil_append, List.getElem?_cons_zero, List.getElem?_cons_succ, List.set_cons_zero, List.set_cons_succ, List.replicate, RE.bind_ok, RE.bindS_ok, noEx_ok, Option.bind_some]
/-! ## what is first unparted -/
def sep (ss : List (Int × Int)) (y n : Int) : Bool := ss.any fun p => isSo p y && !isSo p n
def pr2 (y n : Int) : PyData := .tuple [.int y, .int n]
def Fst (ss : List (Int × Int)) (ys ns : List Int) : Option PyData := ys.findSome? fun y => ns.findSome? fun n => if sep ss y n = true then none else some (pr2 y n)
def orN : Option PyData → PyData
  | none => .none
  | some d => d
theorem land_eq (a b : Nat) : Builtin.bitAnd (a : Int) (b : Int) = ((a &&& b : Nat) : Int) := by
  simp [Builtin.bitAnd]
structure Sm (ss : List (Int × Int)) (ys ns : List Int) : Prop where
  s : ∀ p ∈ ss, 0 ≤ p.1 ∧ p.1 ≤ 100
  y : ∀ y ∈ ys, 0 ≤ y
  n : ∀ y ∈ ns, 0 ≤ y
  ls : ss.length ≤ 1000
  ln : ns.length ≤ 1000
noncomputable def bIn : SM := (sIf (isB (eBin eqD (eBin andD (eV 7) (eV 9)) (eC (.int 0)))) (sRet (eTup (lCons (eV 6) (lCons (eV 8) lNil)))) sPass)
noncomputable def bOut : SM := (sSeq (sSet 7 (eFn g_p_so_of (aCs (vD (eV 2)) (aCs (vD (eV 6)) aNl)))) (sFor (.tp [(.nm 8), (.nm 9)]) (itSeq (eV 5)) bIn))
noncomputable def eUns : EM := (eComp [10] (itSeq (eV 4)) (.nm 10) tYesD (eTup (lCons (eV 10) (lCons (eFn g_p_not_so_of (aCs (vD (eV 2)) (aCs (vD (eV 10)) aNl))) lNil))))
theorem fu_split : b_p_first_unparted = (sSeq (sAsg (.tp [(.nm 1), (.nm 2), (.nm 3), (.nm 4)]) (eFn g_p_need_question (aCs (vD (eV 0)) aNl))) (sSeq (sSet 5 eUns) (sSeq (sFor (.nm 6) (itSeq (eV 3)) bOut) (sRet (eC .none))))) := rfl
def unsD (ss : List (Int × Int)) (x : Int) : PyData := .tuple [.int x, .int (mk (fun p => !isSo p x) ss : Nat)]
theorem first_unparted_eq {n : Int} {ss : List (Int × Int)} {ys ns : List Int} (h : Sm ss ys ns) (w : DS) (hq : g_p_need_question [.val (qd n ss ys ns)] w = .ok (qd n ss ys ns) w) : g_p_first_unparted [.val (qd n ss ys ns)] w = .ok (orN (Fst ss ys ns)) w := by
  have ft : ns.filter (fun _ => true) = ns := List.filter_eq_self.mpr fun _ _ => rfl
  have ec : eUns [.val (qd n ss ys ns), .val (.int n), .val (sgs ss), .val (rws ys), .val (rws ns), .un, .un, .un, .un, .un, .un] w = .ok (.list (ns.map (unsD ss))) w := by
    have e := comp_eq (vs := [10]) (fi := itSeq (eV 4)) (p := .nm 10) (t := tYesD) (f := eTup (lCons (eV 10) (lCons (eFn g_p_not_so_of (aCs (vD (eV 2)) (aCs (vD (eV 10)) aNl))) lNil)))
      (r := [.val (qd n ss ys ns), .val (.int n), .val (sgs ss), .val (rws ys), .val (rws ns), .un, .un, .un, .un, .un, .un]) (w := w) (items := ns) (sel := PyData.int) (fun _ => true) (unsD ss) (by simp [fnD, sSeq, sSet, sAsg, sRet, sRetN, sDrop, sIf, sFrz, sPass, sBad, sOwn2, sApp, sPutAt, sPutLf, sFor, eV, eC, eBin, eUn, eCall, eTup, eLst, eIf, eAnd, eOr, eNot, isB, tyAnd, tyOr, tyNot, lNil, lCons, aNl, aCs, vD, vS, aPk, pick, eFn, eTyIs, eTyNot, eChain, eSl, pNo, pSo, eOw1, eOw2, eAt, eCl, eLf, eLn, itSeq, itRg1, itRg2, itEn, tyN, opt, DL.setP, DL.setPs, frz1, List.length_cons, List.length_nil, List.cons_append, List.nil_append, List.getElem?_cons_zero, List.getElem?_cons_succ, List.set_cons_zero, List.set_cons_succ, List.replicate, RE.bind_ok, RE.bindS_ok, noEx_ok, Option.bind_some])
      (fun x hx => ⟨[.val (qd n ss ys ns), .val (.int n), .val (sgs ss), .val (rws ys), .val (rws ns), .un, .un, .un, .un, .un, .val (.int x)], rfl, rfl, fun _ => by
        have e := not_so_of_eq ss x (fun p hp => (h.s p hp).1) (h.n x hx) h.ls w
        simp [e, szL, unsD, fnD, sSeq, sSet, sAsg, sRet, sRetN, sDrop, sIf, sFrz, sPass, sBad, sOwn2, sApp, sPutAt, sPutLf, sFor, eV, eC, eBin, eUn, eCall, eTup, eLst, eIf, eAnd, eOr, eNot, isB, tyAnd, tyOr, tyNot, lNil, lCons, aNl, aCs, vD, vS, aPk, pick, eFn, eTyIs, eTyNot, eChain, eSl, pNo, pSo, eOw1, eOw2, eAt, eCl, eLf, eLn, itSeq, itRg1, itRg2, itEn, tyN, opt, DL.setP, DL.setPs, frz1, List.length_cons, List.length_nil, List.cons_append, List.nil_append, List.getElem?_cons_zero, List.getElem?_cons_succ, List.set_cons_zero, List.set_cons_succ, List.replicate, RE.bind_ok, RE.bindS_ok, noEx_ok, Option.bind_some]⟩) (Nat.le_trans h.ln (by decide))
    rw [ft] at e
    exact e
  have inner : ∀ y, 0 ≤ y → ∀ s6 s8 s9, (∃ d, (ns.findSome? fun x => if sep ss y x = true then none else some (pr2 y x)) = some d ∧ forL (.tp [.nm 8, .nm 9]) bIn (ns.map (unsD ss)) [.val (qd n ss ys ns), .val (.int n), .val (sgs ss), .val (rws ys), .val (rws ns), s6, .val (.int y), .val (.int (mk (fun p => isSo p y) ss : Nat)), s8, s9, .un] w = .rt d w) ∨
      ((ns.findSome? fun x => if sep ss y x = true then none else some (pr2 y x)) = none ∧ ∃ r2, forL (.tp [.nm 8, .nm 9]) bIn (ns.map (unsD ss)) [.val (qd n ss ys ns), .val (.int n), .val (sgs ss), .val (rws ys), .val (rws ns), s6, .val (.int y), .val (.int (mk (fun p => isSo p y) ss : Nat)), s8, s9, .un] w = .nx r2 w ∧
        ∃ s8 s9, r2 = [.val (qd n ss ys ns), .val (.int n), .val (sgs ss), .val (rws ys), .val (rws ns), s6, .val (.int y), .val (.int (mk (fun p => isSo p y) ss : Nat)), s8, s9, .un]) := by
    intro y hy s6 s8 s9
    refine forL_find (fun r2 => ∃ s8 s9, r2 = [.val (qd n ss ys ns), .val (.int n), .val (sgs ss), .val (rws ys), .val (rws ns), s6, .val (.int y), .val (.int (mk (fun p => isSo p y) ss : Nat)), s8, s9, .un]) _ ns (fun x hx r hr => ?_) _ ⟨s8, s9, rfl⟩
    obtain ⟨a, b, rfl⟩ := hr
    refine ⟨[.val (qd n ss ys ns), .val (.int n), .val (sgs ss), .val (rws ys), .val (rws ns), s6, .val (.int y), .val (.int (mk (fun p => isSo p y) ss : Nat)), .val (.int x), .val (.int (mk (fun p => !isSo p x) ss : Nat)), .un], rfl, ?_⟩
    have hm := mk_and (fun p => isSo p y) (fun p => !isSo p x) ss
    by_cases hs : sep ss y x = true
    · refine .inr ⟨if_pos hs, _, ?_, .val (.int x), .val (.int (mk (fun p => !isSo p x) ss : Nat)), rfl⟩
      have z : ¬ (mk (fun p => isSo p y) ss &&& mk (fun p => !isSo p x) ss) = 0 := fun e => by
        have q := hm.mp e
        unfold sep at hs
        rw [q] at hs
        cases hs
      simp [bIn, andD, land_eq, eqI, z, fnD, sSeq, sSet, sAsg, sRet, sRetN, sDrop, sIf, sFrz, sPass, sBad, sOwn2, sApp, sPutAt, sPutLf, sFor, eV, eC, eBin, eUn, eCall, eTup, eLst, eIf, eAnd, eOr, eNot, isB, tyAnd, tyOr, tyNot, lNil, lCons, aNl, aCs, vD, vS, aPk, pick, eFn, eTyIs, eTyNot, eChain, eSl, pNo, pSo, eOw1, eOw2, eAt, eCl, eLf, eLn, itSeq, itRg1, itRg2, itEn, tyN, opt, DL.setP, DL.setPs, frz1, List.length_cons, List.length_nil, List.cons_append, List.nil_append, List.getElem?_cons_zero, List.getElem?_cons_succ, List.set_cons_zero, List.set_cons_succ, List.replicate, RE.bind_ok, RE.bindS_ok, noEx_ok, Option.bind_some]
    · refine .inl ⟨_, if_neg hs, ?_⟩
      have z : (mk (fun p => isSo p y) ss &&& mk (fun p => !isSo p x) ss) = 0 := hm.mpr (by
        unfold sep at hs
        exact Bool.eq_false_iff.mpr hs)
      simp [bIn, andD, land_eq, eqI, z, szL, pr2, fnD, sSeq, sSet, sAsg, sRet, sRetN, sDrop, sIf, sFrz, sPass, sBad, sOwn2, sApp, sPutAt, sPutLf, sFor, eV, eC, eBin, eUn, eCall, eTup, eLst, eIf, eAnd, eOr, eNot, isB, tyAnd, tyOr, tyNot, lNil, lCons, aNl, aCs, vD, vS, aPk, pick, eFn, eTyIs, eTyNot, eChain, eSl, pNo, pSo, eOw1, eOw2, eAt, eCl, eLf, eLn, itSeq, itRg1, itRg2, itEn, tyN, opt, DL.setP, DL.setPs, frz1, List.length_cons, List.length_nil, List.cons_append, List.nil_append, List.getElem?_cons_zero, List.getElem?_cons_succ, List.set_cons_zero, List.set_cons_succ, List.replicate, RE.bind_ok, RE.bindS_ok, noEx_ok, Option.bind_some]
  have outer := forL_find (p := .nm 6) (body := bOut) (sel := PyData.int) (w := w) (fun r => ∃ s6 s7 s8 s9, r = [.val (qd n ss ys ns), .val (.int n), .val (sgs ss), .val (rws ys), .val (rws ns), .val (.list (ns.map (unsD ss))), s6, s7, s8, s9, .un])
    (fun y => ns.findSome? fun x => if sep ss y x = true then none else some (pr2 y x)) ys (fun y hy r hr => by
      obtain ⟨s6, s7, s8, s9, rfl⟩ := hr
      refine ⟨[.val (qd n ss ys ns), .val (.int n), .val (sgs ss), .val (rws ys), .val (rws ns), .val (.list (ns.map (unsD ss))), .val (.int y), s7, s8, s9, .un], rfl, ?_⟩
      have e := so_of_eq ss y (fun p hp => (h.s p hp).1) (h.y y hy) h.ls w
      have hb : bOut [.val (qd n ss ys ns), .val (.int n), .val (sgs ss), .val (rws ys), .val (rws ns), .val (.list (ns.map (unsD ss))), .val (.int y), s7, s8, s9, .un] w = forL (.tp [.nm 8, .nm 9]) bIn (ns.map (unsD ss)) [.val (qd n ss ys ns), .val (.int n), .val (sgs ss), .val (rws ys), .val (rws ns), .val (.list (ns.map (unsD ss))), .val (.int y), .val (.int (mk (fun p => isSo p y) ss : Nat)), s8, s9, .un] w := by
        simp [bOut, e, fnD, sSeq, sSet, sAsg, sRet, sRetN, sDrop, sIf, sFrz, sPass, sBad, sOwn2, sApp, sPutAt, sPutLf, sFor, eV, eC, eBin, eUn, eCall, eTup, eLst, eIf, eAnd, eOr, eNot, isB, tyAnd, tyOr, tyNot, lNil, lCons, aNl, aCs, vD, vS, aPk, pick, eFn, eTyIs, eTyNot, eChain, eSl, pNo, pSo, eOw1, eOw2, eAt, eCl, eLf, eLn, itSeq, itRg1, itRg2, itEn, tyN, opt, DL.setP, DL.setPs, frz1, List.length_cons, List.length_nil, List.cons_append, List.nil_append, List.getElem?_cons_zero, List.getElem?_cons_succ, List.set_cons_zero, List.set_cons_succ, List.replicate, RE.bind_ok, RE.bindS_ok, noEx_ok, Option.bind_some]
      rw [hb]
      rcases inner y (h.y y hy) (.val (.list (ns.map (unsD ss)))) s8 s9 with ⟨d, e1, e2⟩ | ⟨e1, r2, e2, a, b, rfl⟩
      · exact .inl ⟨d, e1, e2⟩
      · exact .inr ⟨e1, _, e2, _, _, _, _, rfl⟩) [.val (qd n ss ys ns), .val (.int n), .val (sgs ss), .val (rws ys), .val (rws ns), .val (.list (ns.map (unsD ss))), .un, .un, .un, .un, .un] ⟨_, _, _, _, rfl⟩
  have eF : Fst ss ys ns = ys.findSome? fun y => ns.findSome? fun x => if sep ss y x = true then none else some (pr2 y x) := rfl
  rw [← eF] at outer
  have hs0 : DL.setP (.tp [.nm 1, .nm 2, .nm 3, .nm 4]) (qd n ss ys ns) [.val (qd n ss ys ns), .un, .un, .un, .un, .un, .un, .un, .un, .un, .un] = some [.val (qd n ss ys ns), .val (.int n), .val (sgs ss), .val (rws ys), .val (rws ns), .un, .un, .un, .un, .un, .un] := rfl
  rcases outer with ⟨d, e1, e2⟩ | ⟨e1, r2, e2, _⟩
  · rw [e1]
    simp [g_p_first_unparted, fu_split, hq, ec, e2, hs0, orN, fnD, sSeq, sAsg, sSet, sFor, itSeq, sRet, eFn, aCs, aNl, vD, eV, RE.bind_ok, RE.bindS_ok, noEx_ok, List.replicate]
  · rw [e1]
    simp [g_p_first_unparted, fu_split, hq, ec, e2, hs0, orN, fnD, sSeq, sAsg, sSet, sFor, itSeq, sRet, eFn, aCs, aNl, vD, eV, eC, RE.bind_ok, RE.bindS_ok, noEx_ok, List.replicate]
end K03

namespace K03
open L2 PySem PySem.Spec PyProof.Rows DL
theorem eqL1 {α : Type} (l : List α) : eqD (.list (l.map fun _ => PyData.int 1)) (.list []) = some (.bool l.isEmpty) := by
  have e : l.map (fun _ => PyData.int 1) = (l.map fun _ => (1 : Int)).map PyData.int := by rw [List.map_map]; rfl
  unfold eqD
  rw [if_pos ⟨by rw [e]; exact shaped_ints _, rfl⟩]
  cases l with
  | nil => rfl
  | cons a r => rfl
end K03

namespace K03
open L2 PySem PySem.Spec PyProof.Rows DL
def lt2 (p q : Int × Int) : Prop := p.1 < q.1 ∨ (p.1 = q.1 ∧ p.2 < q.2)
structure Q (n : Int) (ss : List (Int × Int)) (ys ns : List Int) : Prop where
  nb : 1 ≤ n ∧ n ≤ 8
  s : ∀ p ∈ ss, (0 ≤ p.1 ∧ p.1 ≤ n - 1) ∧ (0 ≤ p.2 ∧ p.2 ≤ 1)
  so : ss.Pairwise lt2
  y : ∀ y ∈ ys, 0 ≤ y ∧ y ≤ 1 * 2 ^ n.toNat - 1
  yo : ys.Pairwise (· < ·)
  y0 : ys ≠ []
  m : ∀ y ∈ ns, 0 ≤ y ∧ y ≤ 1 * 2 ^ n.toNat - 1
  mo : ns.Pairwise (· < ·)
  m0 : ns ≠ []
  dj : ∀ y ∈ ys, y ∉ ns
  ls : ss.length ≤ 300
  ly : ys.length ≤ 300
  lm : ns.length ≤ 300
theorem Q.sm {n : Int} {ss : List (Int × Int)} {ys ns : List Int} (q : Q n ss ys ns) : Sm ss ys ns :=
  ⟨fun p hp => by have := q.s p hp; have := q.nb; omega, fun y hy => (q.y y hy).1, fun y hy => (q.m y hy).1, Nat.le_trans q.ls (by decide), Nat.le_trans q.lm (by decide)⟩
theorem le_nil (p : Int × Int) : leD (sg p) (.tuple []) = some (.bool false) := by
  show some (PyData.bool (tupLe [p.1, p.2] [])) = _
  rfl
theorem le_lt (p q : Int × Int) (h : lt2 q p) : leD (sg p) (sg q) = some (.bool false) := by
  show some (PyData.bool (tupLe [p.1, p.2] [q.1, q.2])) = _
  congr 2
  unfold tupLe
  show Ob.lexAt _ _ _ 0 2 = false
  unfold Ob.lexAt
  by_cases c : p.1 = q.1
  · have c2 : q.2 < p.2 := by
      rcases h with h | h
      · omega
      · exact h.2
    have e1 : ¬ p.2 = q.2 := by omega
    have e2 : ¬ p.2 ≤ q.2 := by omega
    simp [c, Ob.lexAt, e1, e2]
  · have c2 : ¬ p.1 ≤ q.1 := by
      rcases h with h | h <;> omega
    simp [c, c2]
noncomputable def wBody : SM := (sSeq (sIf (tyOr (tyNot (isB (eFn g_p_is_sign (aCs (vD (eV 0)) (aCs (vD (eV 4)) aNl))))) (isB (eBin leD (eV 4) (eV 2)))) (sRet (eV 3)) sPass) (sSet 2 (eV 4)))
theorem w_split : b_p_first_wrong_sign = (sSeq (sSet 2 (eTup lNil)) (sSeq (sFor (.tp [(.nm 3), (.nm 4)]) (itEn (eV 1)) wBody) (sRet (eC .none)))) := rfl
theorem wrong_loop (n : Int) (s1 : SV) (w : DS) : ∀ (ss : List (Int × Int)) (k : Nat) (last : PyData) (s3 s4 : SV), (∀ p ∈ ss, (0 ≤ p.1 ∧ p.1 ≤ n - 1) ∧ (0 ≤ p.2 ∧ p.2 ≤ 1)) → ss.Pairwise lt2 → (∀ p ∈ ss, leD (sg p) last = some (.bool false)) →
    ∃ r2, forL (.tp [.nm 3, .nm 4]) wBody (enD k (ss.map sg)) [.val (.int n), s1, .val last, s3, s4] w = .nx r2 w
  | [], _, last, s3, s4, _, _, _ => ⟨_, rfl⟩
  | p :: r, k, last, s3, s4, hs, ho, hl => by
    obtain ⟨ho1, ho2⟩ := List.pairwise_cons.mp ho
    obtain ⟨r2, ih⟩ := wrong_loop n s1 w r (k + 1) (sg p) (.val (.int (k : Nat))) (.val (sg p)) (fun q hq => hs q (List.mem_cons_of_mem _ hq)) ho2 (fun q hq => le_lt q p (ho1 q hq))
    refine ⟨r2, ?_⟩
    have e : enD k ((p :: r).map sg) = .tuple [.int (k : Nat), sg p] :: enD (k + 1) (r.map sg) := rfl
    rw [e, forL_nx (r1 := [.val (.int n), s1, .val last, .val (.int (k : Nat)), .val (sg p)]) (r2 := [.val (.int n), s1, .val (sg p), .val (.int (k : Nat)), .val (sg p)]) (w2 := w) rfl ?_]
    · exact ih
    · have g := is_sign_eq n p w
      rw [decide_eq_true (hs p (List.mem_cons_self ..))] at g
      have l := hl p (List.mem_cons_self ..)
      simp [wBody, g, l, fnD, sSeq, sSet, sAsg, sRet, sRetN, sDrop, sIf, sFrz, sPass, sBad, sOwn2, sApp, sPutAt, sPutLf, sFor, eV, eC, eBin, eUn, eCall, eTup, eLst, eIf, eAnd, eOr, eNot, isB, tyAnd, tyOr, tyNot, lNil, lCons, aNl, aCs, vD, vS, aPk, pick, eFn, eTyIs, eTyNot, eChain, eSl, pNo, pSo, eOw1, eOw2, eAt, eCl, eLf, eLn, itSeq, itRg1, itRg2, itEn, tyN, opt, DL.setP, DL.setPs, frz1, List.length_cons, List.length_nil, List.cons_append, List.nil_append, List.getElem?_cons_zero, List.getElem?_cons_succ, List.set_cons_zero, List.set_cons_succ, List.replicate, RE.bind_ok, RE.bindS_ok, noEx_ok, Option.bind_some]
theorem wrong_eq {n : Int} {ss : List (Int × Int)} {ys ns : List Int} (q : Q n ss ys ns) (w : DS) : g_p_first_wrong_sign [.val (.int n), .val (sgs ss)] w = .ok .none w := by
  obtain ⟨r2, e⟩ := wrong_loop n (.val (sgs ss)) w ss 0 (.tuple []) .un .un q.s q.so (fun p _ => le_nil p)
  simp [g_p_first_wrong_sign, w_split, e, szL, fnD, sSeq, sSet, sFor, itEn, sRet, eTup, lNil, eV, eC, RE.bind_ok, RE.bindS_ok, List.replicate]
noncomputable def snBody : SM := (sSeq (sIf (tyNot (isB (eFn g_p_is_integer (aCs (vD (eV 3)) (aCs (vD (eBin addD (eV 2) (eC (.int 1)))) (aCs (vD (eBin subD (eV 0) (eC (.int 1)))) aNl)))))) (sRet (eC (.bool false))) sPass) (sSet 2 (eV 3)))
theorem sn_split : b_p_is_set_of_numbers = (sSeq (sIf (isB (eTyNot "tuple" (eV 1))) (sRet (eC (.bool false))) sPass) (sSeq (sSet 2 (eUn negD (eC (.int 1)))) (sSeq (sFor (.nm 3) (itSeq (eV 1)) snBody) (sRet (eC (.bool true)))))) := rfl
theorem set_loop (n : Int) (s1 : SV) (w : DS) : ∀ (ys : List Int) (last : Int) (s3 : SV), (∀ y ∈ ys, y ≤ n - 1) → ys.Pairwise (· < ·) → (∀ y ∈ ys, last < y) →
    ∃ r2, forL (.nm 3) snBody (ys.map PyData.int) [.val (.int n), s1, .val (.int last), s3] w = .nx r2 w
  | [], _, s3, _, _, _ => ⟨_, rfl⟩
  | y :: r, last, s3, hs, ho, hl => by
    obtain ⟨ho1, ho2⟩ := List.pairwise_cons.mp ho
    obtain ⟨r2, ih⟩ := set_loop n s1 w r y (.val (.int y)) (fun q hq => hs q (List.mem_cons_of_mem _ hq)) ho2 ho1
    refine ⟨r2, ?_⟩
    rw [List.map_cons, forL_nx (r1 := [.val (.int n), s1, .val (.int last), .val (.int y)]) (r2 := [.val (.int n), s1, .val (.int y), .val (.int y)]) (w2 := w) rfl ?_]
    · exact ih
    · have g := is_integer_eq y (last + 1) (n - 1) w
      have l1 : last + 1 ≤ y := by have := hl y (List.mem_cons_self ..); omega
      have l2 := hs y (List.mem_cons_self ..)
      rw [decide_eq_true ⟨l1, l2⟩] at g
      simp [snBody, g, addD, subD, fnD, sSeq, sSet, sAsg, sRet, sRetN, sDrop, sIf, sFrz, sPass, sBad, sOwn2, sApp, sPutAt, sPutLf, sFor, eV, eC, eBin, eUn, eCall, eTup, eLst, eIf, eAnd, eOr, eNot, isB, tyAnd, tyOr, tyNot, lNil, lCons, aNl, aCs, vD, vS, aPk, pick, eFn, eTyIs, eTyNot, eChain, eSl, pNo, pSo, eOw1, eOw2, eAt, eCl, eLf, eLn, itSeq, itRg1, itRg2, itEn, tyN, opt, DL.setP, DL.setPs, frz1, List.length_cons, List.length_nil, List.cons_append, List.nil_append, List.getElem?_cons_zero, List.getElem?_cons_succ, List.set_cons_zero, List.set_cons_succ, List.replicate, RE.bind_ok, RE.bindS_ok, noEx_ok, Option.bind_some]
theorem set_eq {n : Int} {ys : List Int} (hs : ∀ y ∈ ys, 0 ≤ y ∧ y ≤ n - 1) (ho : ys.Pairwise (· < ·)) (w : DS) : g_p_is_set_of_numbers [.val (.int n), .val (rws ys)] w = .ok (.bool true) w := by
  obtain ⟨r2, e⟩ := set_loop n (.val (rws ys)) w ys (-1) .un (fun y hy => (hs y hy).2) ho (fun y hy => by have := (hs y hy).1; omega)
  simp [g_p_is_set_of_numbers, sn_split, e, negD, fnD, sSeq, sSet, sIf, sPass, sFor, itSeq, sRet, eUn, eTyNot, isB, tyN, opt, eV, eC, RE.bind_ok, RE.bindS_ok, List.replicate]
theorem lot_eq {n : Int} (hn : 1 ≤ n ∧ n ≤ 8) {ys : List Int} (hs : ∀ y ∈ ys, 0 ≤ y ∧ y ≤ 1 * 2 ^ n.toNat - 1) (ho : ys.Pairwise (· < ·)) (w : DS) : g_p_is_lot [.val (.int n), .val (rws ys)] w = .ok (.bool true) w := by
  have e := set_eq (n := 1 * 2 ^ n.toNat) hs ho w
  have h := shlI 1 n ⟨by omega, by omega, by decide⟩
  rw [Int.one_mul] at e h
  simp [g_p_is_lot, b_p_is_lot, h, e, fnD, sSeq, sSet, sAsg, sRet, sRetN, sDrop, sIf, sFrz, sPass, sBad, sOwn2, sApp, sPutAt, sPutLf, sFor, eV, eC, eBin, eUn, eCall, eTup, eLst, eIf, eAnd, eOr, eNot, isB, tyAnd, tyOr, tyNot, lNil, lCons, aNl, aCs, vD, vS, aPk, pick, eFn, eTyIs, eTyNot, eChain, eSl, pNo, pSo, eOw1, eOw2, eAt, eCl, eLf, eLn, itSeq, itRg1, itRg2, itEn, tyN, opt, DL.setP, DL.setPs, frz1, List.length_cons, List.length_nil, List.cons_append, List.nil_append, List.getElem?_cons_zero, List.getElem?_cons_succ, List.set_cons_zero, List.set_cons_succ, List.replicate, RE.bind_ok, RE.bindS_ok, noEx_ok, Option.bind_some]
theorem full_eq {n : Int} (hn : 1 ≤ n ∧ n ≤ 8) {ys : List Int} (hs : ∀ y ∈ ys, 0 ≤ y ∧ y ≤ 1 * 2 ^ n.toNat - 1) (ho : ys.Pairwise (· < ·)) (h0 : ys ≠ []) (w : DS) : g_p_is_full_lot [.val (.int n), .val (rws ys)] w = .ok (.bool true) w := by
  have e := lot_eq hn hs ho w
  have l : 0 < ys.length := List.length_pos_iff.mpr h0
  simp [g_p_is_full_lot, b_p_is_full_lot, e, lenD, gtD, fnD, sSeq, sSet, sAsg, sRet, sRetN, sDrop, sIf, sFrz, sPass, sBad, sOwn2, sApp, sPutAt, sPutLf, sFor, eV, eC, eBin, eUn, eCall, eTup, eLst, eIf, eAnd, eOr, eNot, isB, tyAnd, tyOr, tyNot, lNil, lCons, aNl, aCs, vD, vS, aPk, pick, eFn, eTyIs, eTyNot, eChain, eSl, pNo, pSo, eOw1, eOw2, eAt, eCl, eLf, eLn, itSeq, itRg1, itRg2, itEn, tyN, opt, DL.setP, DL.setPs, frz1, List.length_cons, List.length_nil, List.cons_append, List.nil_append, List.getElem?_cons_zero, List.getElem?_cons_succ, List.set_cons_zero, List.set_cons_succ, List.replicate, RE.bind_ok, RE.bindS_ok, noEx_ok, Option.bind_some]
  exact l
theorem lt_nodup {ys : List Int} (ho : ys.Pairwise (· < ·)) : ys.Nodup := ho.imp fun h e => by omega
theorem tupI_rws {ys : List Int} (ho : ys.Pairwise (· < ·)) (hl : ys.length ≤ 300) : tupI (rws ys) = some ys := by
  show ((toInts (ys.map PyData.int)).bind fun ns => if ns.length < 1000 ∧ ns.Nodup then some ns else none) = _
  rw [toInts_map]
  exact if_pos ⟨by omega, lt_nodup ho⟩
theorem common_eq {ys ns : List Int} (yo : ys.Pairwise (· < ·)) (mo : ns.Pairwise (· < ·)) (ly : ys.length ≤ 300) (lm : ns.length ≤ 300) (dj : ∀ y ∈ ys, y ∉ ns) (w : DS) : g_p_have_common_row [.val (rws ys), .val (rws ns)] w = .ok (.bool false) w := by
  have e : ys.filter (fun j => decide (j ∈ ns)) = [] := List.filter_eq_nil_iff.mpr fun y hy => by simpa using dj y hy
  simp [g_p_have_common_row, b_p_have_common_row, eSets, tupI_rws yo ly, tupI_rws mo lm, e, gtD, fnD, sSeq, sSet, sAsg, sRet, sRetN, sDrop, sIf, sFrz, sPass, sBad, sOwn2, sApp, sPutAt, sPutLf, sFor, eV, eC, eBin, eUn, eCall, eTup, eLst, eIf, eAnd, eOr, eNot, isB, tyAnd, tyOr, tyNot, lNil, lCons, aNl, aCs, vD, vS, aPk, pick, eFn, eTyIs, eTyNot, eChain, eSl, pNo, pSo, eOw1, eOw2, eAt, eCl, eLf, eLn, itSeq, itRg1, itRg2, itEn, tyN, opt, DL.setP, DL.setPs, frz1, List.length_cons, List.length_nil, List.cons_append, List.nil_append, List.getElem?_cons_zero, List.getElem?_cons_succ, List.set_cons_zero, List.set_cons_succ, List.replicate, RE.bind_ok, RE.bindS_ok, noEx_ok, Option.bind_some]
theorem need_eq {n : Int} {ss : List (Int × Int)} {ys ns : List Int} (q : Q n ss ys ns) (w : DS) : g_p_need_question [.val (qd n ss ys ns)] w = .ok (qd n ss ys ns) w := by
  have h1 : g_p_is_tuple [.val (qd n ss ys ns), .val (.int 4)] w = .ok (.bool true) w := is_tuple_eq _ 4 w
  have h2 := is_many_eq n w
  rw [decide_eq_true q.nb] at h2
  have h3 := wrong_eq q w
  have h4 := full_eq q.nb q.y q.yo q.y0 w
  have h5 := full_eq q.nb q.m q.mo q.m0 w
  have h6 := common_eq q.yo q.mo q.ly q.lm q.dj w
  have hs0 : DL.setP (.tp [.nm 1, .nm 2, .nm 3, .nm 4]) (qd n ss ys ns) [.val (qd n ss ys ns), .un, .un, .un, .un, .un] = some [.val (qd n ss ys ns), .val (.int n), .val (sgs ss), .val (rws ys), .val (rws ns), .un] := rfl
  simp [g_p_need_question, b_p_need_question, h1, h2, h3, h4, h5, h6, hs0, isNotD, isNone, fnD, sSeq, sSet, sAsg, sIf, sPass, sBad, sRet, tyNot, tyOr, isB, eTyNot, tyN, eBin, opt, eFn, aCs, aNl, vD, eV, eC, RE.bind_ok, RE.bindS_ok, noEx_ok, List.replicate]
theorem unparted_eq {n : Int} {ss : List (Int × Int)} {ys ns : List Int} (q : Q n ss ys ns) (w : DS) : g_p_first_unparted [.val (qd n ss ys ns)] w = .ok (orN (Fst ss ys ns)) w := first_unparted_eq q.sm w (need_eq q w)
theorem Fst_shape {ss : List (Int × Int)} {ys ns : List Int} {d : PyData} (h : Fst ss ys ns = some d) : ∃ y ∈ ys, ∃ n ∈ ns, d = pr2 y n := by
  obtain ⟨y, hy, h2⟩ := List.exists_of_findSome?_eq_some h
  obtain ⟨n, hn, h3⟩ := List.exists_of_findSome?_eq_some h2
  by_cases c : sep ss y n = true
  · rw [if_pos c] at h3; cases h3
  · rw [if_neg c] at h3; cases h3
    exact ⟨y, hy, n, hn, rfl⟩
theorem orN_none {ss : List (Int × Int)} {ys ns : List Int} : isNone (orN (Fst ss ys ns)) = (Fst ss ys ns).isNone := by
  cases e : Fst ss ys ns with
  | none => rfl
  | some d =>
    obtain ⟨y, _, n, _, rfl⟩ := Fst_shape e
    rfl
theorem can_eq {n : Int} {ss : List (Int × Int)} {ys ns : List Int} (q : Q n ss ys ns) (w : DS) : g_p_can_be [.val (qd n ss ys ns)] w = .ok (.bool (Fst ss ys ns).isNone) w := by
  have e := unparted_eq q w
  have e2 : isD (orN (Fst ss ys ns)) .none = some (.bool (isNone (orN (Fst ss ys ns)))) := rfl
  rw [orN_none] at e2
  simp [g_p_can_be, b_p_can_be, e, e2, fnD, sSeq, sSet, sAsg, sRet, sRetN, sDrop, sIf, sFrz, sPass, sBad, sOwn2, sApp, sPutAt, sPutLf, sFor, eV, eC, eBin, eUn, eCall, eTup, eLst, eIf, eAnd, eOr, eNot, isB, tyAnd, tyOr, tyNot, lNil, lCons, aNl, aCs, vD, vS, aPk, pick, eFn, eTyIs, eTyNot, eChain, eSl, pNo, pSo, eOw1, eOw2, eAt, eCl, eLf, eLn, itSeq, itRg1, itRg2, itEn, tyN, opt, DL.setP, DL.setPs, frz1, List.length_cons, List.length_nil, List.cons_append, List.nil_append, List.getElem?_cons_zero, List.getElem?_cons_succ, List.set_cons_zero, List.set_cons_succ, List.replicate, RE.bind_ok, RE.bindS_ok, noEx_ok, Option.bind_some]
theorem Fst_none {ss : List (Int × Int)} {ys ns : List Int} : Fst ss ys ns = none ↔ ∀ y ∈ ys, ∀ n ∈ ns, sep ss y n = true := by
  unfold Fst
  rw [List.findSome?_eq_none_iff]
  constructor
  · intro h y hy n hn
    have h2 := List.findSome?_eq_none_iff.mp (h y hy) n hn
    by_cases c : sep ss y n = true
    · exact c
    · rw [if_neg c] at h2; cases h2
  · intro h y hy
    rw [List.findSome?_eq_none_iff]
    intro n hn
    exact if_pos (h y hy n hn)
end K03

namespace K03
open L2 PySem PySem.Spec PyProof.Rows DL
theorem Gd.mono {m k : Nat} {w : DS} (g : Gd m w) (h : m ≤ k) : Gd k w := ⟨g.len, g.pos, Nat.le_trans g.num h⟩
theorem neLI (l : List Int) : neD (.list (l.map PyData.int)) (.list []) = some (.bool (!l.isEmpty)) := by
  unfold neD
  rw [if_pos ⟨shaped_ints _, rfl⟩]
  cases l with
  | nil => rfl
  | cons a r => rfl
theorem erase_map (l : List Int) (k : Nat) : (l.map PyData.int).eraseIdx k = (l.eraseIdx k).map PyData.int := by
  induction l generalizing k with
  | nil => rfl
  | cons a r ih =>
    cases k with
    | zero => rfl
    | succ k =>
      show PyData.int a :: (r.map PyData.int).eraseIdx k = _
      rw [ih]
      rfl
theorem erase_perm : ∀ (l : List Int) (k : Nat) (x : Int), l[k]? = some x → l.Perm (x :: l.eraseIdx k)
  | a :: r, 0, x, h => by
    have e : a = x := by simpa using h
    subst e
    exact List.Perm.refl _
  | a :: r, k + 1, x, h => by
    have ih := erase_perm r k x (by simpa using h)
    exact (ih.cons a).trans (List.Perm.swap x a _)
  | [], k, x, h => by simp at h
theorem pop_eq (l : List Int) (v : Int) (h0 : 0 ≤ v) (h1 : v < l.length) (hl : l.length ≤ 1000) : ∃ x, l[v.toNat]? = some x ∧ popAtD (l.map PyData.int) (.int v) = some (.int x, (l.eraseIdx v.toNat).map PyData.int) := by
  have hk : v.toNat < l.length := by omega
  refine ⟨l[v.toNat], List.getElem?_eq_getElem hk, ?_⟩
  have e : seqIndex? v (l.map PyData.int).length = some v.toNat := by
    rw [List.length_map]
    unfold seqIndex?
    simp
    omega
  show (if -(2 ^ 63) ≤ v ∧ v < 2 ^ 63 then (seqIndex? v (l.map PyData.int).length).bind fun m => ((l.map PyData.int)[m]?).map fun y => (y, (l.map PyData.int).eraseIdx m) else none) = _
  rw [if_pos (by omega), e]
  simp [erase_map, hk]
noncomputable def uBody : SM := (sIf (isB (eOw2 neD 3 (eLst lNil))) (sAppPopAt 4 3 (eFn g_l_draw (aCs (vS 0) (aCs (vD (eOw1 lenD 3)) aNl)))) sPass)
theorem un_loop (a b : SV) : ∀ (k : Nat) (lo : Int) (left found : List Int) (s5 : SV) (m : Nat) (w : DS), Gd m w → m + k < 2 ^ 60 → left.length + found.length ≤ 1000 →
    ∃ (left2 found2 : List Int) (s52 : SV) (w2 : DS), forL (.nm 5) uBody (rgD lo k) [.st, a, b, .own (left.map .int), .own (found.map .int), s5] w = .nx [.st, a, b, .own (left2.map .int), .own (found2.map .int), s52] w2 ∧ (found2 ++ left2).Perm (found ++ left) ∧ found2.length = found.length + min k left.length ∧ Gd (m + k) w2
  | 0, lo, left, found, s5, m, w, g, hm, hl => ⟨left, found, s5, w, by simp [rgD, forL], List.Perm.refl _, by simp, g⟩
  | k + 1, lo, left, found, s5, m, w, g, hm, hl => by
    have en := neLI left
    cases hle : left with
    | nil =>
      subst hle
      obtain ⟨l2, f2, s52, w2, e, p, ln, g2⟩ := un_loop a b k (lo + 1) [] found (.val (.int lo)) m w g (by omega) hl
      refine ⟨l2, f2, s52, w2, ?_, p, by simpa using ln, g2.mono (by omega)⟩
      rw [rgD_succ, forL_nx (r1 := [.st, a, b, .own ([].map .int), .own (found.map .int), .val (.int lo)]) (r2 := [.st, a, b, .own ([].map .int), .own (found.map .int), .val (.int lo)]) (w2 := w) rfl ?_]
      · exact e
      · have e0 : neD (.list []) (.list []) = some (.bool false) := en
        simp [uBody, e0, leaf, szL, fnD, sSeq, sSet, sAsg, sRet, sRetN, sDrop, sIf, sFrz, sPass, sBad, sOwn2, sApp, sPutAt, sPutLf, sFor, eV, eC, eBin, eUn, eCall, eTup, eLst, eIf, eAnd, eOr, eNot, isB, tyAnd, tyOr, tyNot, lNil, lCons, aNl, aCs, vD, vS, aPk, pick, eFn, eTyIs, eTyNot, eChain, eSl, pNo, pSo, eOw1, eOw2, eAt, eCl, eLf, eLn, itSeq, itRg1, itRg2, itEn, tyN, opt, DL.setP, DL.setPs, frz1, List.length_cons, List.length_nil, List.cons_append, List.nil_append, List.getElem?_cons_zero, List.getElem?_cons_succ, List.set_cons_zero, List.set_cons_succ, List.replicate, RE.bind_ok, RE.bindS_ok, noEx_ok, Option.bind_some]
    | cons x0 r0 =>
      have hne : left.isEmpty = false := by rw [hle]; rfl
      have hpos : 0 < left.length := by rw [hle]; simp
      rw [← hle]
      obtain ⟨v, w1, ed, hv0, hv1, g1⟩ := draw_ok g (by omega) (left.length : Int) (by omega) (by omega)
      obtain ⟨x, hx, ep⟩ := pop_eq left v hv0 (by omega) (by omega)
      have hkl : v.toNat < left.length := by omega
      obtain ⟨l2, f2, s52, w2, e, p, ln, g2⟩ := un_loop a b k (lo + 1) (left.eraseIdx v.toNat) (found ++ [x]) (.val (.int lo)) (m + 1) w1 g1 (by omega) (by rw [List.length_eraseIdx_of_lt hkl, List.length_append]; simp; omega)
      refine ⟨l2, f2, s52, w2, ?_, p.trans ?_, ?_, g2.mono (by omega)⟩
      · rw [rgD_succ, forL_nx (r1 := [.st, a, b, .own (left.map .int), .own (found.map .int), .val (.int lo)]) (r2 := [.st, a, b, .own ((left.eraseIdx v.toNat).map .int), .own ((found ++ [x]).map .int), .val (.int lo)]) (w2 := w1) rfl ?_]
        · exact e
        · have hfl : found.length < szL := by unfold szL; omega
          have en2 : neD (.list (left.map .int)) (.list []) = some (.bool true) := by rw [en, hne]; rfl
          simp [uBody, sAppPopAt, en2, leaf, lenD, ed, ep, hfl, szL, fnD, sSeq, sSet, sAsg, sRet, sRetN, sDrop, sIf, sFrz, sPass, sBad, sOwn2, sApp, sPutAt, sPutLf, sFor, eV, eC, eBin, eUn, eCall, eTup, eLst, eIf, eAnd, eOr, eNot, isB, tyAnd, tyOr, tyNot, lNil, lCons, aNl, aCs, vD, vS, aPk, pick, eFn, eTyIs, eTyNot, eChain, eSl, pNo, pSo, eOw1, eOw2, eAt, eCl, eLf, eLn, itSeq, itRg1, itRg2, itEn, tyN, opt, DL.setP, DL.setPs, frz1, List.length_cons, List.length_nil, List.cons_append, List.nil_append, List.getElem?_cons_zero, List.getElem?_cons_succ, List.set_cons_zero, List.set_cons_succ, List.replicate, RE.bind_ok, RE.bindS_ok, noEx_ok, Option.bind_some]
          exact hfl
      · have q := erase_perm left v.toNat x hx
        rw [List.append_assoc]
        exact (q.symm.append_left found)
      · rw [ln, List.length_eraseIdx_of_lt hkl, List.length_append]
        simp
        omega
def rgL (n : Nat) : List Int := (List.range n).map fun (i : Nat) => ((0 : Int) + (i : Int))
theorem rgL_eq (n : Nat) : rgD 0 n = (rgL n).map .int := by unfold rgD rgL; rw [List.map_map]; rfl
theorem rgL_nodup (n : Nat) : (rgL n).Nodup := by
  unfold rgL
  rw [List.nodup_iff_pairwise_ne, List.pairwise_map]
  exact (List.nodup_iff_pairwise_ne.mp List.nodup_range).imp fun h e => h (by omega)
theorem rgL_mem {n : Nat} {x : Int} (h : x ∈ rgL n) : 0 ≤ x ∧ x < n := by
  unfold rgL at h
  obtain ⟨i, hi, e⟩ := List.mem_map.mp h
  have := List.mem_range.mp hi
  omega
theorem rgL_len (n : Nat) : (rgL n).length = n := by unfold rgL; rw [List.length_map, List.length_range]
theorem pow_bd {c : Int} (h : 1 ≤ c ∧ c ≤ 5) : 2 ≤ (2 : Int) ^ c.toNat ∧ (2 : Int) ^ c.toNat ≤ 32 := by
  have : c = 1 ∨ c = 2 ∨ c = 3 ∨ c = 4 ∨ c = 5 := by omega
  rcases this with rfl | rfl | rfl | rfl | rfl <;> decide
end K03

namespace K03
open L2 PySem PySem.Spec PyProof.Rows DL
def allS (lo : Int) : Nat → List (Int × Int)
  | 0 => []
  | k + 1 => (lo, 0) :: (lo, 1) :: allS (lo + 1) k
theorem allS_mem : ∀ (k : Nat) (lo : Int) (p : Int × Int), p ∈ allS lo k ↔ (lo ≤ p.1 ∧ p.1 < lo + k ∧ 0 ≤ p.2 ∧ p.2 ≤ 1)
  | 0, lo, p => by
    constructor
    · intro h; cases h
    · rintro ⟨h1, h2, _⟩; omega
  | k + 1, lo, (a, b) => by
    have ih := allS_mem k (lo + 1) (a, b)
    show (a, b) ∈ (lo, 0) :: (lo, 1) :: allS (lo + 1) k ↔ _
    rw [List.mem_cons, List.mem_cons, ih, Prod.mk.injEq, Prod.mk.injEq]
    constructor
    · rintro (⟨rfl, rfl⟩ | ⟨rfl, rfl⟩ | h) <;> simp only [] at * <;> omega
    · intro h
      simp only [] at h
      by_cases c : a = lo
      · by_cases d : b = 0
        · exact .inl ⟨c, d⟩
        · exact .inr (.inl ⟨c, by omega⟩)
      · exact .inr (.inr (by simp only []; omega))
theorem allS_len : ∀ (k : Nat) (lo : Int), (allS lo k).length = 2 * k
  | 0, _ => rfl
  | k + 1, lo => by show (allS (lo + 1) k).length + 1 + 1 = _; rw [allS_len k]; omega
theorem allS_ord : ∀ (k : Nat) (lo : Int), (allS lo k).Pairwise lt2
  | 0, _ => .nil
  | k + 1, lo => by
    have h : ∀ q ∈ allS (lo + 1) k, lo < q.1 := fun q hq => by have := ((allS_mem k (lo + 1) q).mp hq).1; omega
    refine .cons (fun q hq => ?_) (.cons (fun q hq => ?_) (allS_ord k (lo + 1)))
    · rcases List.mem_cons.mp hq with rfl | hq
      · exact .inr ⟨rfl, (by decide : (0 : Int) < 1)⟩
      · exact .inl (h q hq)
    · exact .inl (h q hq)
noncomputable def eBody : SM := (sSet 2 (eBin addD (eV 2) (eLst (lCons (eTup (lCons (eV 3) (lCons (eC (.int 0)) lNil))) (lCons (eTup (lCons (eV 3) (lCons (eC (.int 1)) lNil))) lNil)))))
theorem ev_loop (a b : SV) (tl : List SV) (w : DS) : ∀ (k : Nat) (lo : Int) (E : List (Int × Int)) (s3 : SV), E.length + 2 * k ≤ 1000 → ∃ s32, forL (.nm 3) eBody (rgD lo k) (a :: b :: .val (.list (E.map sg)) :: s3 :: tl) w = .nx (a :: b :: .val (.list ((E ++ allS lo k).map sg)) :: s32 :: tl) w
  | 0, lo, E, s3, _ => ⟨s3, by simp [rgD, forL, allS]⟩
  | k + 1, lo, E, s3, hl => by
    obtain ⟨s32, ih⟩ := ev_loop a b tl w k (lo + 1) (E ++ [(lo, 0), (lo, 1)]) (.val (.int lo)) (by simp; omega)
    refine ⟨s32, ?_⟩
    have c1 : E.length + 1 + 1 ≤ 16777216 := by omega
    rw [rgD_succ, forL_nx (r1 := a :: b :: .val (.list (E.map sg)) :: .val (.int lo) :: tl) (r2 := a :: b :: .val (.list ((E ++ [(lo, 0), (lo, 1)]).map sg)) :: .val (.int lo) :: tl) (w2 := w) rfl (by simp [eBody, addD, szL, c1, sg, fnD, sSeq, sSet, sAsg, sRet, sRetN, sDrop, sIf, sFrz, sPass, sBad, sOwn2, sApp, sPutAt, sPutLf, sFor, eV, eC, eBin, eUn, eCall, eTup, eLst, eIf, eAnd, eOr, eNot, isB, tyAnd, tyOr, tyNot, lNil, lCons, aNl, aCs, vD, vS, aPk, pick, eFn, eTyIs, eTyNot, eChain, eSl, pNo, pSo, eOw1, eOw2, eAt, eCl, eLf, eLn, itSeq, itRg1, itRg2, itEn, tyN, opt, DL.setP, DL.setPs, frz1, List.length_cons, List.length_nil, List.cons_append, List.nil_append, List.getElem?_cons_zero, List.getElem?_cons_succ, List.set_cons_zero, List.set_cons_succ, List.replicate, RE.bind_ok, RE.bindS_ok, noEx_ok, Option.bind_some]), ih, List.append_assoc]
    rfl
theorem cmpL_draw {α : Type} {p : Pat} {t : TM} {f : EM} {r : List SV} {sel : α → PyData} (h : ∀ a w m, Gd m w → m < 2 ^ 60 → ∃ r1 b w2, setP p (sel a) r = some r1 ∧ t r1 w = .ok b w2 ∧ Gd (m + 1) w2 ∧ ∀ w, f r1 w = .ok (sel a) w) :
    ∀ (items : List α) (m : Nat) (w : DS), Gd m w → m + items.length < 2 ^ 60 → ∃ (sub : List α) (w2 : DS), sub.Sublist items ∧ cmpL p t f r (items.map sel) w = some (sub.map sel, w2) ∧ Gd (m + items.length) w2
  | [], m, w, g, _ => ⟨[], w, List.Sublist.refl _, rfl, g⟩
  | a :: l, m, w, g, hm => by
    rw [List.length_cons] at hm
    obtain ⟨r1, b, w1, e1, e2, g1, e3⟩ := h a w m g (by omega)
    obtain ⟨sub, w2, hs, e4, g2⟩ := cmpL_draw h l (m + 1) w1 g1 (by omega)
    cases b with
    | true =>
      refine ⟨a :: sub, w2, hs.cons_cons a, ?_, g2.mono (by rw [List.length_cons]; omega)⟩
      simp [cmpL, e1, e2, e3, e4, toOpt]
    | false =>
      refine ⟨sub, w2, hs.cons a, ?_, g2.mono (by rw [List.length_cons]; omega)⟩
      simp [cmpL, e1, e2, e4, toOpt]
theorem isort_mem (l : List Int) (x : Int) : x ∈ isort l ↔ x ∈ l := (isort_perm l).mem_iff
theorem isort_lt {l : List Int} (h : l.Nodup) : (isort l).Pairwise (· < ·) := by
  have h1 := isort_sorted l
  have h2 : (isort l).Nodup := (isort_perm l).nodup_iff.mpr h
  rw [List.nodup_iff_pairwise_ne] at h2
  exact (h1.and h2).imp fun ⟨a, b⟩ => by omega
theorem isort_len (l : List Int) : (isort l).length = l.length := (isort_perm l).length_eq
theorem cut_take (l : List PyData) (k : Nat) : DL.cutD l none (some (k : Int)) = l.take k := by
  unfold DL.cutD
  rw [HT.sIx_none, HT.sIx_nat]
  simp
theorem cut_drop (l : List PyData) (k : Nat) : DL.cutD l (some (k : Int)) none = l.drop k := by
  unfold DL.cutD
  rw [HT.sIx_none, HT.sIx_nat]
  by_cases h : k ≤ l.length
  · rw [Nat.min_eq_left h, List.take_of_length_le]
    rw [List.length_drop]
    omega
  · have h1 : min k l.length = l.length := by omega
    rw [h1, List.drop_length]
    rw [List.drop_eq_nil_of_le (by omega)]
    simp
noncomputable def cOne : EM := (eComp [7] (itSeq (eV 2)) (.nm 7) (isB (eBin eqD (eBin ixD (eV 7) (eC (.int 1))) (eC (.int 1)))) (eV 7))
noncomputable def cDrw : EM := (eComp [7] (itSeq (eV 2)) (.nm 7) (isB (eBin gtD (eFn g_l_draw (aCs (vS 0) (aCs (vD (eC (.int 3))) aNl))) (eC (.int 0)))) (eV 7))
noncomputable def fEv : SM := (sFor (.nm 3) (itRg1 (eV 1)) eBody)
/-- what a drawn question is -/
def Drawn (n : Int) (ss : List (Int × Int)) (ys ns : List Int) : Prop := Q n ss ys ns ∧ n ≤ 5 ∧ ss.Sublist (allS 0 n.toNat) ∧ ys.length ≤ 16 ∧ ns.length ≤ 16
theorem fEv_eq {c : Int} (hc : 1 ≤ c ∧ c ≤ 5) (w : DS) : ∃ s3, fEv [.st, .val (.int c), .val (.list []), .un, .un, .un, .un, .un] w = .nx [.st, .val (.int c), .val (.list ((allS 0 c.toNat).map sg)), s3, .un, .un, .un, .un] w := by
  obtain ⟨s3, e⟩ := ev_loop .st (.val (.int c)) [.un, .un, .un, .un] w c.toNat 0 [] .un (by simp; omega)
  have c2 : -16777216 ≤ c ∧ c ≤ 16777216 := by omega
  rw [List.map_nil, List.nil_append] at e
  exact ⟨s3, by simp [fEv, sFor, itRg1, eV, RE.bind_ok, RE.bindS_ok, c2, e]⟩
theorem cOne_eq (c : Int) (E : List (Int × Int)) (s3 s4 : SV) (hl : E.length ≤ 100) (w : DS) : cOne [.st, .val (.int c), .val (.list (E.map sg)), s3, s4, .un, .un, .un] w = .ok (.list ((E.filter fun p => decide (p.2 = 1)).map sg)) w :=
  comp_eq (vs := [7]) (sel := sg) (fun p => decide (p.2 = 1)) sg (by simp [fnD, sSeq, sSet, sAsg, sRet, sRetN, sDrop, sIf, sFrz, sPass, sBad, sOwn2, sApp, sPutAt, sPutLf, sFor, eV, eC, eBin, eUn, eCall, eTup, eLst, eIf, eAnd, eOr, eNot, isB, tyAnd, tyOr, tyNot, lNil, lCons, aNl, aCs, vD, vS, aPk, pick, eFn, eTyIs, eTyNot, eChain, eSl, pNo, pSo, eOw1, eOw2, eAt, eCl, eLf, eLn, itSeq, itRg1, itRg2, itEn, tyN, opt, DL.setP, DL.setPs, frz1, List.length_cons, List.length_nil, List.cons_append, List.nil_append, List.getElem?_cons_zero, List.getElem?_cons_succ, List.set_cons_zero, List.set_cons_succ, List.replicate, RE.bind_ok, RE.bindS_ok, noEx_ok, Option.bind_some]) (fun p hp => ⟨[noOwn .st, noOwn (.val (.int c)), noOwn (.val (.list (E.map sg))), noOwn s3, noOwn s4, .un, .un, .val (sg p)], rfl, by
    have e : ixD (sg p) (.int 1) = some (.int p.2) := ixT1 _ _ _
    simp [e, eqI, fnD, sSeq, sSet, sAsg, sRet, sRetN, sDrop, sIf, sFrz, sPass, sBad, sOwn2, sApp, sPutAt, sPutLf, sFor, eV, eC, eBin, eUn, eCall, eTup, eLst, eIf, eAnd, eOr, eNot, isB, tyAnd, tyOr, tyNot, lNil, lCons, aNl, aCs, vD, vS, aPk, pick, eFn, eTyIs, eTyNot, eChain, eSl, pNo, pSo, eOw1, eOw2, eAt, eCl, eLf, eLn, itSeq, itRg1, itRg2, itEn, tyN, opt, DL.setP, DL.setPs, frz1, List.length_cons, List.length_nil, List.cons_append, List.nil_append, List.getElem?_cons_zero, List.getElem?_cons_succ, List.set_cons_zero, List.set_cons_succ, List.replicate, RE.bind_ok, RE.bindS_ok, noEx_ok, Option.bind_some], fun _ => by simp [fnD, sSeq, sSet, sAsg, sRet, sRetN, sDrop, sIf, sFrz, sPass, sBad, sOwn2, sApp, sPutAt, sPutLf, sFor, eV, eC, eBin, eUn, eCall, eTup, eLst, eIf, eAnd, eOr, eNot, isB, tyAnd, tyOr, tyNot, lNil, lCons, aNl, aCs, vD, vS, aPk, pick, eFn, eTyIs, eTyNot, eChain, eSl, pNo, pSo, eOw1, eOw2, eAt, eCl, eLf, eLn, itSeq, itRg1, itRg2, itEn, tyN, opt, DL.setP, DL.setPs, frz1, List.length_cons, List.length_nil, List.cons_append, List.nil_append, List.getElem?_cons_zero, List.getElem?_cons_succ, List.set_cons_zero, List.set_cons_succ, List.replicate, RE.bind_ok, RE.bindS_ok, noEx_ok, Option.bind_some]⟩) (Nat.le_trans hl (by decide))
theorem cDrw_eq (c : Int) (E : List (Int × Int)) (s3 s4 : SV) (hl : E.length ≤ 100) {m : Nat} {w : DS} (g : Gd m w) (hm : m + 100 < 2 ^ 60) : ∃ (sub : List (Int × Int)) (w2 : DS), sub.Sublist E ∧ cDrw [.st, .val (.int c), .val (.list (E.map sg)), s3, s4, .un, .un, .un] w = .ok (.list (sub.map sg)) w2 ∧ Gd (m + E.length) w2 := by
  obtain ⟨sub, w2, hs, e, g2⟩ := cmpL_draw (p := .nm 7) (t := isB (eBin gtD (eFn g_l_draw (aCs (vS 0) (aCs (vD (eC (.int 3))) aNl))) (eC (.int 0)))) (f := eV 7) (r := wipeR [.st, .val (.int c), .val (.list (E.map sg)), s3, s4, .un, .un, .un] [7]) (sel := sg) (fun p w m g hm => by
      obtain ⟨v, w2, ed, v0, v1, g2⟩ := draw_ok g hm 3 (by decide) (by decide)
      refine ⟨[noOwn .st, noOwn (.val (.int c)), noOwn (.val (.list (E.map sg))), noOwn s3, noOwn s4, .un, .un, .val (sg p)], decide (0 < v), w2, rfl, ?_, g2, fun w => by simp [fnD, sSeq, sSet, sAsg, sRet, sRetN, sDrop, sIf, sFrz, sPass, sBad, sOwn2, sApp, sPutAt, sPutLf, sFor, eV, eC, eBin, eUn, eCall, eTup, eLst, eIf, eAnd, eOr, eNot, isB, tyAnd, tyOr, tyNot, lNil, lCons, aNl, aCs, vD, vS, aPk, pick, eFn, eTyIs, eTyNot, eChain, eSl, pNo, pSo, eOw1, eOw2, eAt, eCl, eLf, eLn, itSeq, itRg1, itRg2, itEn, tyN, opt, DL.setP, DL.setPs, frz1, List.length_cons, List.length_nil, List.cons_append, List.nil_append, List.getElem?_cons_zero, List.getElem?_cons_succ, List.set_cons_zero, List.set_cons_succ, List.replicate, RE.bind_ok, RE.bindS_ok, noEx_ok, Option.bind_some]⟩
      have e0 : noOwn SV.st = .st := rfl
      simp [e0, ed, gtD, fnD, sSeq, sSet, sAsg, sRet, sRetN, sDrop, sIf, sFrz, sPass, sBad, sOwn2, sApp, sPutAt, sPutLf, sFor, eV, eC, eBin, eUn, eCall, eTup, eLst, eIf, eAnd, eOr, eNot, isB, tyAnd, tyOr, tyNot, lNil, lCons, aNl, aCs, vD, vS, aPk, pick, eFn, eTyIs, eTyNot, eChain, eSl, pNo, pSo, eOw1, eOw2, eAt, eCl, eLf, eLn, itSeq, itRg1, itRg2, itEn, tyN, opt, DL.setP, DL.setPs, frz1, List.length_cons, List.length_nil, List.cons_append, List.nil_append, List.getElem?_cons_zero, List.getElem?_cons_succ, List.set_cons_zero, List.set_cons_succ, List.replicate, RE.bind_ok, RE.bindS_ok, noEx_ok, Option.bind_some]) E m w g (by omega)
  refine ⟨sub, w2, hs, ?_, g2⟩
  have l : (sub.map sg).length ≤ szL := by rw [List.length_map]; exact Nat.le_trans hs.length_le (Nat.le_trans hl (by decide))
  show ((itSeq (eV 2) [.st, .val (.int c), .val (.list (E.map sg)), s3, s4, .un, .un, .un] w).bind fun ds w1 => _) = _
  show (match cmpL (.nm 7) (isB (eBin gtD (eFn g_l_draw (aCs (vS 0) (aCs (vD (eC (.int 3))) aNl))) (eC (.int 0)))) (eV 7) (wipeR [.st, .val (.int c), .val (.list (E.map sg)), s3, s4, .un, .un, .un] [7]) (E.map sg) w with
    | some (ys, w2) => if ys.length ≤ szL then RE.ok (PyData.list ys) w2 else RE.bad
    | none => RE.bad) = _
  rw [e]
  exact if_pos l
end K03

namespace K03
open L2 PySem PySem.Spec PyProof.Rows DL
/-! ## rows and their bits -/
theorem bt_test (x s : Int) (hx : 0 ≤ x) : bt x s = if x.toNat.testBit s.toNat = true then 1 else 0 := by
  obtain ⟨n, rfl⟩ : ∃ n : Nat, x = (n : Int) := ⟨x.toNat, by omega⟩
  unfold bt
  rw [Int.toNat_natCast, Nat.testBit_eq_decide_div_mod_eq]
  have e : ((n : Int) / 2 ^ s.toNat % 2) = ((n / 2 ^ s.toNat % 2 : Nat) : Int) := by
    push_cast
    rfl
  rw [e]
  have := Nat.mod_two_eq_zero_or_one (n / 2 ^ s.toNat)
  rcases this with h | h <;> simp [h]
theorem test_lt {x c : Int} (hx : 0 ≤ x) (h : x ≤ 1 * 2 ^ c.toNat - 1) {i : Nat} (hi : x.toNat.testBit i = true) : i < c.toNat := by
  refine Nat.lt_of_not_le fun z => ?_
  have p : x.toNat < 2 ^ i := by
    have q : x.toNat < 2 ^ c.toNat := by
      have e : ((2 ^ c.toNat : Nat) : Int) = (2 : Int) ^ c.toNat := by push_cast; rfl
      omega
    exact Nat.lt_of_lt_of_le q (Nat.pow_le_pow_right (by decide) z)
  rw [Nat.testBit_lt_two_pow p] at hi
  cases hi
theorem sep_mono {ss s2 : List (Int × Int)} (h : ∀ p ∈ ss, p ∈ s2) {y n : Int} (e : sep ss y n = true) : sep s2 y n = true := by
  unfold sep at e ⊢
  rw [List.any_eq_true] at e ⊢
  obtain ⟨p, hp, q⟩ := e
  exact ⟨p, h p hp, q⟩
theorem Fst_mono {ss s2 : List (Int × Int)} {ys y2 ns n2 : List Int} (h : Fst ss ys ns = none) (hs : ∀ p ∈ ss, p ∈ s2) (hy : ∀ y ∈ y2, y ∈ ys) (hn : ∀ y ∈ n2, y ∈ ns) : Fst s2 y2 n2 = none := by
  rw [Fst_none] at h ⊢
  exact fun y a n b => sep_mono hs (h y (hy y a) n (hn n b))
theorem sep_all {c y n : Int} (hy : 0 ≤ y ∧ y ≤ 1 * 2 ^ c.toNat - 1) (hn : 0 ≤ n ∧ n ≤ 1 * 2 ^ c.toNat - 1) (hne : y ≠ n) : sep (allS 0 c.toNat) y n = true := by
  have hne2 : y.toNat ≠ n.toNat := by omega
  have ⟨i, hi⟩ : ∃ i, y.toNat.testBit i ≠ n.toNat.testBit i := Classical.byContradiction fun z => hne2 (Nat.eq_of_testBit_eq fun i => Classical.byContradiction fun q => z ⟨i, q⟩)
  have lt : i < c.toNat := by
    cases a : y.toNat.testBit i with
    | true => exact test_lt hy.1 hy.2 a
    | false =>
      cases b : n.toNat.testBit i with
      | true => exact test_lt hn.1 hn.2 b
      | false => rw [a, b] at hi; exact absurd rfl hi
  unfold sep
  rw [List.any_eq_true]
  have b1 := bt_test y (i : Int) hy.1
  have b2 := bt_test n (i : Int) hn.1
  rw [Int.toNat_natCast] at b1 b2
  refine ⟨((i : Int), bt y (i : Int)), (allS_mem _ _ _).mpr ⟨by simp, by simp; omega, by simp only []; rw [b1]; split <;> decide, by simp only []; rw [b1]; split <;> decide⟩, ?_⟩
  have n1 : ¬ bt n (i : Int) = bt y (i : Int) := by
    rw [b1, b2]
    cases a : y.toNat.testBit i <;> cases b : n.toNat.testBit i <;> simp_all
  simp [isSo, n1]
def risS (c : Int) : List (Int × Int) := (rgL c.toNat).map fun i => (i, 1)
theorem risS_mem {c : Int} {p : Int × Int} (h : p ∈ risS c) : 0 ≤ p.1 ∧ p.1 < c ∧ p.2 = 1 := by
  unfold risS at h
  obtain ⟨i, hi, e⟩ := List.mem_map.mp h
  have := rgL_mem hi
  subst e
  exact ⟨this.1, by have := this.2; show i < c; omega, rfl⟩
theorem mem_risS {c : Int} {i : Nat} (h : i < c.toNat) : ((i : Int), (1 : Int)) ∈ risS c := by
  unfold risS rgL
  refine List.mem_map.mpr ⟨(i : Int), List.mem_map.mpr ⟨i, List.mem_range.mpr h, by omega⟩, rfl⟩
theorem rgL_lt (n : Nat) : (rgL n).Pairwise (· < ·) := by
  unfold rgL
  rw [List.pairwise_map]
  exact List.pairwise_lt_range.imp fun h => by omega
theorem risS_ord (c : Int) : (risS c).Pairwise lt2 := by
  unfold risS
  rw [List.pairwise_map]
  exact (rgL_lt _).imp fun h => .inl h
theorem sep_ris {c y n : Int} (hy : 0 ≤ y ∧ y ≤ 1 * 2 ^ c.toNat - 1) (hn : 0 ≤ n) : sep (risS c) y n = !decide (Builtin.bitAnd y n = y) := by
  have e : Builtin.bitAnd y n = ((y.toNat &&& n.toNat : Nat) : Int) := by simp [Builtin.bitAnd, hy.1, hn]
  have key : (y.toNat &&& n.toNat) = y.toNat ↔ ∀ i, y.toNat.testBit i = true → n.toNat.testBit i = true := by
    constructor
    · intro h i hi
      have z := congrArg (fun x => x.testBit i) h
      simp only [Nat.testBit_and, hi, Bool.true_and] at z
      exact z
    · intro h
      refine Nat.eq_of_testBit_eq fun i => ?_
      rw [Nat.testBit_and]
      cases a : y.toNat.testBit i with
      | false => rfl
      | true => rw [h i a]; rfl
  have tr : ∀ (x : Int), 0 ≤ x → ∀ i : Nat, (bt x (i : Int) = 1 ↔ x.toNat.testBit i = true) := fun x hx i => by
    rw [bt_test x (i : Int) hx, Int.toNat_natCast]
    split <;> simp_all
  have key2 : Builtin.bitAnd y n = y ↔ ∀ i, y.toNat.testBit i = true → n.toNat.testBit i = true := by
    rw [← key, e]
    omega
  rw [Bool.eq_iff_iff]
  simp only [Bool.not_eq_true', decide_eq_false_iff_not, key2]
  unfold sep
  rw [List.any_eq_true]
  constructor
  · rintro ⟨p, hp, q⟩ hall
    obtain ⟨p0, p1, p2⟩ := risS_mem hp
    simp only [isSo, p2, Bool.and_eq_true, decide_eq_true_eq, Bool.not_eq_true', decide_eq_false_iff_not] at q
    have ep : p.1 = ((p.1.toNat : Nat) : Int) := by omega
    rw [ep] at q
    exact q.2 ((tr n hn _).mpr (hall _ ((tr y hy.1 _).mp q.1)))
  · intro h
    have ⟨i, hi⟩ : ∃ i, ¬ (y.toNat.testBit i = true → n.toNat.testBit i = true) := Classical.byContradiction fun z => h fun i => Classical.byContradiction fun q => z ⟨i, q⟩
    have ⟨h1, h2⟩ : y.toNat.testBit i = true ∧ ¬ n.toNat.testBit i = true := Classical.not_imp.mp hi
    refine ⟨((i : Int), 1), mem_risS (test_lt hy.1 hy.2 h1), ?_⟩
    have a1 := (tr y hy.1 i).mpr h1
    have a2 : ¬ bt n (i : Int) = 1 := fun z => h2 ((tr n hn i).mp z)
    simp [isSo, a1, a2]
/-! ## other questions -/
theorem Q.with {c : Int} {ss s2 : List (Int × Int)} {ys ns : List Int} (q : Q c ss ys ns) (h1 : ∀ p ∈ s2, (0 ≤ p.1 ∧ p.1 ≤ c - 1) ∧ (0 ≤ p.2 ∧ p.2 ≤ 1)) (h2 : s2.Pairwise lt2) (h3 : s2.length ≤ 300) : Q c s2 ys ns :=
  ⟨q.nb, h1, h2, q.y, q.yo, q.y0, q.m, q.mo, q.m0, q.dj, h3, q.ly, q.lm⟩
theorem Q.all {c : Int} {ss : List (Int × Int)} {ys ns : List Int} (q : Q c ss ys ns) : Q c (allS 0 c.toNat) ys ns :=
  q.with (fun p hp => by have := (allS_mem _ _ _).mp hp; have := q.nb; omega) (allS_ord _ _) (by rw [allS_len]; have := q.nb; omega)
theorem Q.ris {c : Int} {ss : List (Int × Int)} {ys ns : List Int} (q : Q c ss ys ns) : Q c (risS c) ys ns :=
  q.with (fun p hp => by have := risS_mem hp; omega) (risS_ord c) (by unfold risS; rw [List.length_map, rgL_len]; have := q.nb; omega)
theorem Q.sub {c : Int} {ss : List (Int × Int)} {ys ns y2 n2 : List Int} (q : Q c ss ys ns) (h1 : y2.Sublist ys) (h2 : n2.Sublist ns) (a : y2 ≠ []) (b : n2 ≠ []) : Q c ss y2 n2 :=
  ⟨q.nb, q.s, q.so, fun y hy => q.y y (h1.subset hy), q.yo.sublist h1, a, fun y hy => q.m y (h2.subset hy), q.mo.sublist h2, b, fun y hy hz => q.dj y (h1.subset hy) (h2.subset hz), q.ls, Nat.le_trans h1.length_le q.ly, Nat.le_trans h2.length_le q.lm⟩
theorem Fst_all {c : Int} {ss : List (Int × Int)} {ys ns : List Int} (q : Q c ss ys ns) : Fst (allS 0 c.toNat) ys ns = none :=
  Fst_none.mpr fun y hy n hn => sep_all (q.y y hy) (q.m n hn) fun e => q.dj y hy (e ▸ hn)
def mre (ps : List (Int × Int)) : List (Int × Int) := (setSortL ps).map fun c => (c / 64, c % 64)
theorem toPr_sg : ∀ ps : List (Int × Int), toPr (ps.map sg) = some ps
  | [] => rfl
  | p :: r => by
    show (toPr (r.map sg)).map ((p.1, p.2) :: ·) = _
    rw [toPr_sg r]
    rfl
theorem setSort_eq {ps : List (Int × Int)} (hl : ps.length < 64) (hs : ∀ p ∈ ps, small p = true) : setSortD (sgs ps) = some (.list ((mre ps).map sg)) := by
  show ((toPr (ps.map sg)).bind fun ps => if ps.length < 64 ∧ ps.all small = true then some (PyData.list ((setSortL ps).map DL.prD)) else none) = _
  rw [toPr_sg]
  have e : (mre ps).map sg = (setSortL ps).map DL.prD := by
    unfold mre
    rw [List.map_map]
    rfl
  rw [e]
  exact if_pos ⟨hl, List.all_eq_true.mpr hs⟩
theorem mre_mem {ps : List (Int × Int)} (hs : ∀ p ∈ ps, small p = true) (p : Int × Int) : p ∈ mre ps ↔ p ∈ ps := by
  unfold mre setSortL
  rw [List.mem_map]
  constructor
  · rintro ⟨c, hc, e⟩
    rw [isort_mem, uniq_mem, List.mem_map] at hc
    obtain ⟨q, hq, e2⟩ := hc
    have z := small_code (x := q.1) (y := q.2) (hs q hq)
    subst e2
    have e3 : prC q = prC (q.1, q.2) := rfl
    rw [e3, z.1, z.2] at e
    subst e
    exact hq
  · intro h
    refine ⟨prC p, ?_, ?_⟩
    · rw [isort_mem, uniq_mem]
      exact List.mem_map_of_mem h
    · have z := small_code (x := p.1) (y := p.2) (hs p h)
      have e3 : prC p = prC (p.1, p.2) := rfl
      rw [e3, z.1, z.2]
theorem mre_ord (ps : List (Int × Int)) : (mre ps).Pairwise lt2 := by
  unfold mre setSortL
  rw [List.pairwise_map]
  refine (isort_lt (uniq_nodup _)).imp fun {a b} h => ?_
  unfold lt2
  simp only []
  omega
theorem uniq_len : ∀ l : List Int, (uniq l).length ≤ l.length
  | [] => Nat.le_refl _
  | x :: r => by
    unfold uniq
    have ih := uniq_len r
    split
    · rw [List.length_cons]; omega
    · rw [List.length_cons, List.length_cons]; omega
theorem mre_len (ps : List (Int × Int)) : (mre ps).length ≤ ps.length := by
  unfold mre setSortL
  rw [List.length_map, isort_len]
  exact Nat.le_trans (uniq_len _) (by rw [List.length_map]; exact Nat.le_refl _)
end K03

namespace K03
open L2 PySem PySem.Spec PyProof.Rows DL
/-! ## what may be shown -/
structure Ok (W D : Nat) (d : PyData) : Prop where
  g : good d = true
  w : d.weight ≤ W
  d : d.depth ≤ D
theorem Ok.okR {W D : Nat} {d : PyData} (h : Ok W D d) (hw : W ≤ 2 ^ 20) (hd : D ≤ 150) : okR d := ⟨h.g, Nat.le_trans h.w hw, Nat.le_trans h.d hd⟩
theorem Ok.mono {W D W2 D2 : Nat} {d : PyData} (h : Ok W D d) (hw : W ≤ W2) (hd : D ≤ D2) : Ok W2 D2 d := ⟨h.g, Nat.le_trans h.w hw, Nat.le_trans h.d hd⟩
theorem like_eq {d : PyData} {W D : Nat} (h : Ok W D d) (hw : W ≤ 2 ^ 20) (hd : D ≤ 150) (w : DS) : likeG [.val d, .val d] w = .ok (.bool true) w := if_pos ⟨rfl, h.okR hw hd⟩
theorem int_ok {x : Int} (h : 0 ≤ x ∧ x < 65536) : Ok 16 0 (.int x) := by
  refine ⟨?_, ?_, Nat.le_refl _⟩
  · show decide (x.natAbs < 10 ^ 12) = true
    exact decide_eq_true (by omega)
  · show (if (x == 0) = true then 0 else x.natAbs.log2 + 1) ≤ 16
    split
    · omega
    · have : x.natAbs.log2 < 16 := (Nat.log2_lt (by simp_all)).mpr (by omega)
      omega
theorem bool_ok (b : Bool) : Ok 1 0 (.bool b) := ⟨rfl, by cases b <;> decide, Nat.le_refl _⟩
theorem none_ok : Ok 1 0 .none := ⟨rfl, by decide, Nat.le_refl _⟩
theorem all_ok {W D : Nat} : ∀ (ds : List PyData), (∀ d ∈ ds, Ok W D d) → goodAll ds = true ∧ PyData.weightAll ds ≤ (W + 1) * ds.length ∧ PyData.depthAll ds ≤ D
  | [], _ => ⟨rfl, Nat.le_refl _, Nat.zero_le _⟩
  | x :: r, h => by
    obtain ⟨a, b, c⟩ := all_ok r fun y hy => h y (List.mem_cons_of_mem _ hy)
    have hx := h x (List.mem_cons_self ..)
    refine ⟨?_, ?_, ?_⟩
    · show (good x && goodAll r) = true
      rw [hx.g, a]; rfl
    · show x.weight + 1 + PyData.weightAll r ≤ (W + 1) * (r.length + 1)
      have := hx.w
      rw [Nat.mul_add, Nat.mul_one]
      omega
    · show max x.depth (PyData.depthAll r) ≤ D
      exact Nat.max_le.mpr ⟨hx.d, c⟩
theorem list_ok {W D : Nat} {ds : List PyData} (N : Nat) (h : ∀ d ∈ ds, Ok W D d) (hl : ds.length ≤ N) : Ok ((W + 1) * N) (D + 1) (.list ds) := by
  obtain ⟨a, b, c⟩ := all_ok ds h
  exact ⟨a, Nat.le_trans b (Nat.mul_le_mul (Nat.le_refl _) hl), Nat.succ_le_succ c⟩
theorem tup_ok {W D : Nat} {ds : List PyData} (N : Nat) (h : ∀ d ∈ ds, Ok W D d) (hl : ds.length ≤ N) : Ok ((W + 1) * N) (D + 1) (.tuple ds) := by
  obtain ⟨a, b, c⟩ := all_ok ds h
  exact ⟨a, Nat.le_trans b (Nat.mul_le_mul (Nat.le_refl _) hl), Nat.succ_le_succ c⟩
theorem two_ok {W D : Nat} {a b : PyData} (ha : Ok W D a) (hb : Ok W D b) : ∀ d ∈ [a, b], Ok W D d := fun d hd => by
  simp only [List.mem_cons, List.not_mem_nil, or_false] at hd
  rcases hd with rfl | rfl
  · exact ha
  · exact hb
theorem three_ok {W D : Nat} {a b c : PyData} (ha : Ok W D a) (hb : Ok W D b) (hc : Ok W D c) : ∀ d ∈ [a, b, c], Ok W D d := fun d hd => by
  simp only [List.mem_cons, List.not_mem_nil, or_false] at hd
  rcases hd with rfl | rfl | rfl
  · exact ha
  · exact hb
  · exact hc
theorem four_ok {W D : Nat} {a b c e : PyData} (ha : Ok W D a) (hb : Ok W D b) (hc : Ok W D c) (he : Ok W D e) : ∀ d ∈ [a, b, c, e], Ok W D d := fun d hd => by
  simp only [List.mem_cons, List.not_mem_nil, or_false] at hd
  rcases hd with rfl | rfl | rfl | rfl
  · exact ha
  · exact hb
  · exact hc
  · exact he
theorem sg_ok {p : Int × Int} (h : (0 ≤ p.1 ∧ p.1 ≤ 7) ∧ (0 ≤ p.2 ∧ p.2 ≤ 1)) : Ok 34 1 (sg p) := tup_ok (W := 16) (D := 0) 2 (two_ok (int_ok (by omega)) (int_ok (by omega))) (Nat.le_refl _)
theorem rws_ok {ys : List Int} (h : ∀ y ∈ ys, 0 ≤ y ∧ y < 65536) (hl : ys.length ≤ 300) : Ok 5100 1 (rws ys) := tup_ok (W := 16) (D := 0) 300 (fun d hd => by
  obtain ⟨p, hp, rfl⟩ := List.mem_map.mp hd
  exact int_ok (h p hp)) (by rw [List.length_map]; exact hl)
theorem seq_nx {f g : SM} {r r1 : List SV} {w w1 : DS} (h : f r w = .nx r1 w1) : sSeq f g r w = g r1 w1 := by
  unfold sSeq
  rw [h]
theorem forL_same {α : Type} {p : Pat} {body : SM} {sel : α → PyData} {w : DS} (St : List SV → Prop) (items : List α) (h : ∀ a ∈ items, ∀ r, St r → ∃ r1 r2, setP p (sel a) r = some r1 ∧ body r1 w = .nx r2 w ∧ St r2) (r : List SV) (hr : St r) : ∃ r2, forL p body (items.map sel) r w = .nx r2 w ∧ St r2 := by
  induction items generalizing r with
  | nil => exact ⟨r, rfl, hr⟩
  | cons a l ih =>
    obtain ⟨r1, r2, e1, e2, h2⟩ := h a (List.mem_cons_self ..) r hr
    obtain ⟨r3, e3, h3⟩ := ih (fun b hb => h b (List.mem_cons_of_mem _ hb)) r2 h2
    exact ⟨r3, by rw [List.map_cons, forL_nx e1 e2]; exact e3, h3⟩
def Rs (ss : List (Int × Int)) : Prop := ∀ p ∈ ss, (0 ≤ p.1 ∧ p.1 ≤ 7) ∧ (0 ≤ p.2 ∧ p.2 ≤ 1)
theorem sgs_ok {ss : List (Int × Int)} (h : Rs ss) (hl : ss.length ≤ 100) : Ok 3500 2 (sgs ss) := tup_ok (W := 34) (D := 1) 100 (fun d hd => by
  obtain ⟨p, hp, rfl⟩ := List.mem_map.mp hd
  exact sg_ok (h p hp)) (by rw [List.length_map]; exact hl)
theorem rws_ok2 {ys : List Int} (h : ∀ y ∈ ys, 0 ≤ y ∧ y < 65536) (hl : ys.length ≤ 300) : Ok 5100 1 (rws ys) := tup_ok (W := 16) (D := 0) 300 (fun d hd => by
  obtain ⟨p, hp, rfl⟩ := List.mem_map.mp hd
  exact int_ok (h p hp)) (by rw [List.length_map]; exact hl)
theorem pow_le_256 {n : Int} (hn : 1 ≤ n ∧ n ≤ 8) : (2 : Int) ^ n.toNat ≤ 256 := by
  obtain ⟨k, hk⟩ : ∃ k : Nat, n.toNat = k := ⟨_, rfl⟩
  have h8 : k ≤ 8 := by omega
  rw [hk]
  match k, h8 with
  | 0, _ | 1, _ | 2, _ | 3, _ | 4, _ | 5, _ | 6, _ | 7, _ | 8, _ => decide
theorem ints_lay : ∀ l : List Int, PyData.canLayAll0 (l.map PyData.int) = true ∧ PyData.depthAll (l.map PyData.int) = 0
  | [] => ⟨rfl, rfl⟩
  | x :: r => by
    obtain ⟨a, b⟩ := ints_lay r
    refine ⟨?_, ?_⟩
    · show (true && PyData.canLayAll0 (r.map PyData.int)) = true
      rw [a]; rfl
    · show max 0 (PyData.depthAll (r.map PyData.int)) = 0
      rw [b]; rfl
theorem any_eqv (x : Int) : ∀ L : List Int, ((L.map PyData.int).any fun y => PyData.eqv y (.int x)) = decide (x ∈ L)
  | [] => rfl
  | a :: r => by
    rw [List.map_cons, List.any_cons, any_eqv x r]
    show ((a == x) || decide (x ∈ r)) = _
    rw [Bool.eq_iff_iff, Bool.or_eq_true, beq_iff_eq, decide_eq_true_eq, decide_eq_true_eq, List.mem_cons]
    exact ⟨fun h => h.imp Eq.symm id, fun h => h.imp Eq.symm id⟩
theorem qd_ok2 {n : Int} {ss : List (Int × Int)} {ys ns : List Int} (hn : 0 ≤ n ∧ n < 65536) (hs : Rs ss) (hl : ss.length ≤ 100) (hy : ∀ y ∈ ys, 0 ≤ y ∧ y < 65536) (ly : ys.length ≤ 300) (hm : ∀ y ∈ ns, 0 ≤ y ∧ y < 65536) (lm : ns.length ≤ 300) : Ok 20404 3 (qd n ss ys ns) :=
  tup_ok (W := 5100) (D := 2) 4 (four_ok ((int_ok hn).mono (by decide) (by decide)) ((sgs_ok hs hl).mono (by decide) (by decide)) ((rws_ok2 hy ly).mono (by decide) (by decide)) ((rws_ok2 hm lm).mono (by decide) (by decide))) (Nat.le_refl _)
/-! ## tables -/
def enI : Nat → List Int → List (Nat × Int)
  | _, [] => []
  | k, x :: r => (k, x) :: enI (k + 1) r
def sel2 (p : Nat × Int) : PyData := .tuple [.int (p.1 : Nat), .int p.2]
theorem enD_I : ∀ (k : Nat) (T : List Int), enD k (T.map PyData.int) = (enI k T).map sel2
  | _, [] => rfl
  | k, x :: r => by
    show PyData.tuple [.int (k : Nat), .int x] :: enD (k + 1) (r.map PyData.int) = _
    rw [enD_I (k + 1) r]
    rfl
theorem enI_len : ∀ (k : Nat) (T : List Int), (enI k T).length = T.length
  | _, [] => rfl
  | k, x :: r => by show (enI (k + 1) r).length + 1 = _; rw [enI_len (k + 1) r]; rfl
theorem enI_mem : ∀ (k : Nat) (T : List Int) (p : Nat × Int), p ∈ enI k T ↔ ∃ i, T[i]? = some p.2 ∧ p.1 = k + i
  | k, [], p => by
    constructor
    · intro h; cases h
    · rintro ⟨i, h, _⟩; simp at h
  | k, x :: r, p => by
    show p ∈ (k, x) :: enI (k + 1) r ↔ _
    rw [List.mem_cons, enI_mem (k + 1) r p]
    constructor
    · rintro (rfl | ⟨i, h1, h2⟩)
      · exact ⟨0, rfl, rfl⟩
      · exact ⟨i + 1, by rw [List.getElem?_cons_succ]; exact h1, by omega⟩
    · rintro ⟨i, h1, h2⟩
      cases i with
      | zero =>
        rw [List.getElem?_cons_zero] at h1
        exact .inl (Prod.ext h2 (Option.some.inj h1).symm)
      | succ i =>
        rw [List.getElem?_cons_succ] at h1
        exact .inr ⟨i, h1, by omega⟩
theorem enI_ord : ∀ (k : Nat) (T : List Int), (enI k T).Pairwise (fun a b => a.1 < b.1)
  | _, [] => .nil
  | k, x :: r => by
    refine .cons (fun q hq => ?_) (enI_ord (k + 1) r)
    obtain ⟨i, _, h⟩ := (enI_mem (k + 1) r q).mp hq
    show k < q.1
    omega
def rowsW (b : Int) (T : List Int) : List Int := ((enI 0 T).filter fun p => decide (p.2 = b)).map fun p => ((p.1 : Nat) : Int)
theorem rowsW_mem {b : Int} {T : List Int} {x : Int} : x ∈ rowsW b T ↔ ∃ i : Nat, x = (i : Nat) ∧ T[i]? = some b := by
  unfold rowsW
  rw [List.mem_map]
  constructor
  · rintro ⟨p, hp, rfl⟩
    rw [List.mem_filter] at hp
    obtain ⟨i, h1, h2⟩ := (enI_mem 0 T p).mp hp.1
    have h3 := of_decide_eq_true hp.2
    refine ⟨p.1, rfl, ?_⟩
    rw [h2, Nat.zero_add, h1, h3]
  · rintro ⟨i, rfl, h⟩
    exact ⟨(i, b), List.mem_filter.mpr ⟨(enI_mem 0 T _).mpr ⟨i, h, by simp⟩, decide_eq_true rfl⟩, rfl⟩
theorem rowsW_ord (b : Int) (T : List Int) : (rowsW b T).Pairwise (· < ·) := by
  unfold rowsW
  exact List.pairwise_map.mpr (((enI_ord 0 T).sublist List.filter_sublist).imp fun h => by omega)
theorem rowsW_len (b : Int) (T : List Int) : (rowsW b T).length ≤ T.length := by
  unfold rowsW
  rw [List.length_map]
  exact Nat.le_trans (List.length_filter_le _ _) (Nat.le_of_eq (enI_len 0 T))
structure Tb (c : Nat) (T : List Int) : Prop where
  cb : 1 ≤ c ∧ c ≤ 8
  v : ∀ x ∈ T, x = 0 ∨ x = 1
  l : T.length = 2 ^ c
theorem Tb.le {c : Nat} {T : List Int} (t : Tb c T) : T.length ≤ 256 := by
  have : 2 ^ c ≤ 2 ^ 8 := Nat.pow_le_pow_right (by decide) t.cb.2
  rw [t.l]
  exact this
theorem rowsW_bd {c : Nat} {T : List Int} (t : Tb c T) (b : Int) : ∀ y ∈ rowsW b T, 0 ≤ y ∧ y ≤ 1 * 2 ^ ((c : Nat) : Int).toNat - 1 := fun y hy => by
  obtain ⟨i, rfl, h⟩ := rowsW_mem.mp hy
  have hi := (List.getElem?_eq_some_iff.mp h).1
  rw [t.l] at hi
  have e : ((c : Nat) : Int).toNat = c := rfl
  have p : ((2 : Int) ^ c) = ((2 ^ c : Nat) : Int) := by rw [Int.natCast_pow]; rfl
  rw [e, p]
  omega
theorem rowsW_65 {c : Nat} {T : List Int} (t : Tb c T) (b : Int) : ∀ y ∈ rowsW b T, 0 ≤ y ∧ y < 65536 := fun y hy => by
  have h := rowsW_bd t b y hy
  have p := pow_le_256 (n := (c : Nat)) (by have := t.cb; omega)
  omega
theorem Tb.q {c : Nat} {T : List Int} (t : Tb c T) (h0 : (0 : Int) ∈ T) (h1 : (1 : Int) ∈ T) {ss : List (Int × Int)} (hs : ∀ p ∈ ss, (0 ≤ p.1 ∧ p.1 ≤ ((c : Nat) : Int) - 1) ∧ (0 ≤ p.2 ∧ p.2 ≤ 1)) (ho : ss.Pairwise lt2) (hl : ss.length ≤ 300) : Q (c : Nat) ss (rowsW 1 T) (rowsW 0 T) := by
  have ne : ∀ b : Int, b ∈ T → rowsW b T ≠ [] := fun b hb e => by
    obtain ⟨i, hi⟩ := List.getElem?_of_mem hb
    have := rowsW_mem.mpr ⟨i, rfl, hi⟩
    rw [e] at this
    cases this
  have le := t.le
  refine ⟨by have := t.cb; omega, hs, ho, rowsW_bd t 1, rowsW_ord 1 T, ne 1 h1, rowsW_bd t 0, rowsW_ord 0 T, ne 0 h0, fun y hy hz => ?_, hl, Nat.le_trans (rowsW_len 1 T) (by omega), Nat.le_trans (rowsW_len 0 T) (by omega)⟩
  obtain ⟨i, rfl, hi⟩ := rowsW_mem.mp hy
  obtain ⟨j, hj, hj2⟩ := rowsW_mem.mp hz
  have : i = j := by omega
  subst this
  rw [hi] at hj2
  cases hj2
/-! ## what the program makes of a table -/
theorem rows_comp {vs : List Nat} {i j : Nat} {r : List SV} {fi : IM} {t : TM} {f : EM} (b : Int) {T : List Int} (hl : T.length ≤ 1000) (w : DS) (hi : fi r w = .ok ((enI 0 T).map sel2) w)
    (h : ∀ p : Nat × Int, ∃ r1, setP (.tp [.nm i, .nm j]) (sel2 p) (wipeR r vs) = some r1 ∧ t r1 w = .ok (decide (p.2 = b)) w ∧ f r1 w = .ok (.int (p.1 : Nat)) w) : eComp vs fi (.tp [.nm i, .nm j]) t f r w = .ok (.list ((rowsW b T).map .int)) w := by
  have e := comp_eq (vs := vs) (fi := fi) (p := .tp [.nm i, .nm j]) (t := t) (f := f) (r := r) (w := w) (items := enI 0 T) (sel := sel2) (fun p => decide (p.2 = b)) (fun p => .int (p.1 : Nat)) hi (fun p _ => by
    obtain ⟨r1, e1, e2, e3⟩ := h p
    exact ⟨r1, e1, e2, fun _ => e3⟩) (by rw [enI_len]; unfold szL; omega)
  rw [e]
  unfold rowsW
  rw [List.map_map]
  rfl
theorem rows_with_eq {T : List Int} (hl : T.length ≤ 1000) (b : Int) (w : DS) : g_p_rows_with [.val (rws T), .val (.int b)] w = .ok (rws (rowsW b T)) w := by
  have e := rows_comp (vs := [2, 3]) (i := 2) (j := 3) (r := [.val (rws T), .val (.int b), .un, .un]) (fi := itEn (eV 0)) (t := isB (eBin eqD (eV 3) (eV 1))) (f := eV 2) b hl w (by
    show RE.ok (enD 0 (T.map PyData.int)) w = _
    rw [enD_I]) fun p => ⟨[.val (rws T), .val (.int b), .val (.int (p.1 : Nat)), .val (.int p.2)], rfl, by
      have e := eqI p.2 b
      simp [e, fnD, sSeq, sSet, sAsg, sRet, sRetN, sDrop, sIf, sFrz, sPass, sBad, sOwn2, sApp, sPutAt, sPutLf, sFor, eV, eC, eBin, eUn, eCall, eTup, eLst, eIf, eAnd, eOr, eNot, isB, tyAnd, tyOr, tyNot, lNil, lCons, aNl, aCs, vD, vS, aPk, pick, eFn, eTyIs, eTyNot, eChain, eSl, pNo, pSo, eOw1, eOw2, eAt, eCl, eLf, eLn, itSeq, itRg1, itRg2, itEn, tyN, opt, DL.setP, DL.setPs, frz1, List.length_cons, List.length_nil, List.cons_append, List.nil_append, List.getElem?_cons_zero, List.getElem?_cons_succ, List.set_cons_zero, List.set_cons_succ, List.replicate, RE.bind_ok, RE.bindS_ok, noEx_ok, Option.bind_some], by simp [fnD, sSeq, sSet, sAsg, sRet, sRetN, sDrop, sIf, sFrz, sPass, sBad, sOwn2, sApp, sPutAt, sPutLf, sFor, eV, eC, eBin, eUn, eCall, eTup, eLst, eIf, eAnd, eOr, eNot, isB, tyAnd, tyOr, tyNot, lNil, lCons, aNl, aCs, vD, vS, aPk, pick, eFn, eTyIs, eTyNot, eChain, eSl, pNo, pSo, eOw1, eOw2, eAt, eCl, eLf, eLn, itSeq, itRg1, itRg2, itEn, tyN, opt, DL.setP, DL.setPs, frz1, List.length_cons, List.length_nil, List.cons_append, List.nil_append, List.getElem?_cons_zero, List.getElem?_cons_succ, List.set_cons_zero, List.set_cons_succ, List.replicate, RE.bind_ok, RE.bindS_ok, noEx_ok, Option.bind_some]⟩
  show _ = RE.ok (PyData.tuple ((rowsW b T).map PyData.int)) w
  generalize (rowsW b T).map PyData.int = R at e
  generalize hb : eComp [2, 3] (itEn (eV 0)) (.tp [(.nm 2), (.nm 3)]) (isB (eBin eqD (eV 3) (eV 1))) (eV 2) = bd at e
  simp only [g_p_rows_with, b_p_rows_with, hb]
  simp [e, tupleD, fnD, sSeq, sSet, sAsg, sRet, sRetN, sDrop, sIf, sFrz, sPass, sBad, sOwn2, sApp, sPutAt, sPutLf, sFor, eV, eC, eBin, eUn, eCall, eTup, eLst, eIf, eAnd, eOr, eNot, isB, tyAnd, tyOr, tyNot, lNil, lCons, aNl, aCs, vD, vS, aPk, pick, eFn, eTyIs, eTyNot, eChain, eSl, pNo, pSo, eOw1, eOw2, eAt, eCl, eLf, eLn, itSeq, itRg1, itRg2, itEn, tyN, opt, DL.setP, DL.setPs, frz1, List.length_cons, List.length_nil, List.cons_append, List.nil_append, List.getElem?_cons_zero, List.getElem?_cons_succ, List.set_cons_zero, List.set_cons_succ, List.replicate, RE.bind_ok, RE.bindS_ok, noEx_ok, Option.bind_some]
theorem many_ok {n : Int} (h : 1 ≤ n ∧ n ≤ 8) (w : DS) : g_p_need_many [.val (.int n)] w = .ok (.int n) w := by
  have h1 := is_many_eq n w
  rw [decide_eq_true h] at h1
  simp [g_p_need_many, b_p_need_many, fnX, h1, fnD, sSeq, sSet, sAsg, sRet, sRetN, sDrop, sIf, sFrz, sPass, sBad, sOwn2, sApp, sPutAt, sPutLf, sFor, eV, eC, eBin, eUn, eCall, eTup, eLst, eIf, eAnd, eOr, eNot, isB, tyAnd, tyOr, tyNot, lNil, lCons, aNl, aCs, vD, vS, aPk, pick, eFn, eTyIs, eTyNot, eChain, eSl, pNo, pSo, eOw1, eOw2, eAt, eCl, eLf, eLn, itSeq, itRg1, itRg2, itEn, tyN, opt, DL.setP, DL.setPs, frz1, List.length_cons, List.length_nil, List.cons_append, List.nil_append, List.getElem?_cons_zero, List.getElem?_cons_succ, List.set_cons_zero, List.set_cons_succ, List.replicate, RE.bind_ok, RE.bindS_ok, noEx_ok, Option.bind_some]
theorem wrong_none {n : Int} {ss : List (Int × Int)} (hs : ∀ p ∈ ss, (0 ≤ p.1 ∧ p.1 ≤ n - 1) ∧ (0 ≤ p.2 ∧ p.2 ≤ 1)) (ho : ss.Pairwise lt2) (w : DS) : g_p_first_wrong_sign [.val (.int n), .val (sgs ss)] w = .ok .none w := by
  obtain ⟨r2, e⟩ := wrong_loop n (.val (sgs ss)) w ss 0 (.tuple []) .un .un hs ho (fun p _ => le_nil p)
  simp [g_p_first_wrong_sign, w_split, e, szL, fnD, sSeq, sSet, sFor, itEn, sRet, eTup, lNil, eV, eC, RE.bind_ok, RE.bindS_ok, List.replicate]
theorem signs_ok {n : Int} {ss : List (Int × Int)} (hs : ∀ p ∈ ss, (0 ≤ p.1 ∧ p.1 ≤ n - 1) ∧ (0 ≤ p.2 ∧ p.2 ≤ 1)) (ho : ss.Pairwise lt2) (w : DS) : g_p_need_signs [.val (.int n), .val (sgs ss)] w = .ok (sgs ss) w := by
  have e := wrong_none hs ho w
  have i : isNotD .none .none = some (.bool false) := rfl
  simp [g_p_need_signs, b_p_need_signs, fnX, e, i, fnD, sSeq, sSet, sAsg, sRet, sRetN, sDrop, sIf, sFrz, sPass, sBad, sOwn2, sApp, sPutAt, sPutLf, sFor, eV, eC, eBin, eUn, eCall, eTup, eLst, eIf, eAnd, eOr, eNot, isB, tyAnd, tyOr, tyNot, lNil, lCons, aNl, aCs, vD, vS, aPk, pick, eFn, eTyIs, eTyNot, eChain, eSl, pNo, pSo, eOw1, eOw2, eAt, eCl, eLf, eLn, itSeq, itRg1, itRg2, itEn, tyN, opt, DL.setP, DL.setPs, frz1, List.length_cons, List.length_nil, List.cons_append, List.nil_append, List.getElem?_cons_zero, List.getElem?_cons_succ, List.set_cons_zero, List.set_cons_succ, List.replicate, RE.bind_ok, RE.bindS_ok, noEx_ok, Option.bind_some]
theorem value_none {T : List Int} (hv : ∀ x ∈ T, x = 0 ∨ x = 1) (w : DS) : g_p_first_wrong_value [.val (rws T)] w = .ok .none w := by
  obtain ⟨r2, e, _⟩ := forL_same (p := .tp [.nm 1, .nm 2]) (body := sIf (tyNot (isB (eFn g_p_is_integer (aCs (vD (eV 2)) (aCs (vD (eC (.int 0))) (aCs (vD (eC (.int 1))) aNl)))))) (sRet (eV 1)) sPass) (sel := sel2) (w := w) (fun r => ∃ a b, r = [.val (rws T), a, b]) (enI 0 T) (fun p hp r hr => by
    obtain ⟨a, b, rfl⟩ := hr
    obtain ⟨i, h1, _⟩ := (enI_mem 0 T p).mp hp
    have hx := hv p.2 (List.mem_of_getElem? h1)
    have e := is_integer_eq p.2 0 1 w
    rw [decide_eq_true (by omega)] at e
    exact ⟨[.val (rws T), .val (.int (p.1 : Nat)), .val (.int p.2)], [.val (rws T), .val (.int (p.1 : Nat)), .val (.int p.2)], rfl, by simp [e, fnD, sSeq, sSet, sAsg, sRet, sRetN, sDrop, sIf, sFrz, sPass, sBad, sOwn2, sApp, sPutAt, sPutLf, sFor, eV, eC, eBin, eUn, eCall, eTup, eLst, eIf, eAnd, eOr, eNot, isB, tyAnd, tyOr, tyNot, lNil, lCons, aNl, aCs, vD, vS, aPk, pick, eFn, eTyIs, eTyNot, eChain, eSl, pNo, pSo, eOw1, eOw2, eAt, eCl, eLf, eLn, itSeq, itRg1, itRg2, itEn, tyN, opt, DL.setP, DL.setPs, frz1, List.length_cons, List.length_nil, List.cons_append, List.nil_append, List.getElem?_cons_zero, List.getElem?_cons_succ, List.set_cons_zero, List.set_cons_succ, List.replicate, RE.bind_ok, RE.bindS_ok, noEx_ok, Option.bind_some], _, _, rfl⟩) [.val (rws T), .un, .un] ⟨_, _, rfl⟩
  rw [← enD_I] at e
  generalize hb : sIf (tyNot (isB (eFn g_p_is_integer (aCs (vD (eV 2)) (aCs (vD (eC (.int 0))) (aCs (vD (eC (.int 1))) aNl)))))) (sRet (eV 1)) sPass = bd at e
  simp only [g_p_first_wrong_value, b_p_first_wrong_value, hb]
  simp [e, fnD, sSeq, sFor, itEn, sRet, eV, eC, RE.bind_ok, RE.bindS_ok, List.replicate]
theorem values_ok {c : Nat} {T : List Int} (t : Tb c T) (w : DS) : g_p_need_values [.val (.int (c : Nat)), .val (rws T)] w = .ok (rws T) w := by
  have e1 : g_p_is_tuple [.val (rws T), .val (.int ((1 : Int) * 2 ^ ((c : Nat) : Int).toNat))] w = .ok (.bool true) w := by
    have e := is_tuple_eq (T.map PyData.int) ((1 : Int) * 2 ^ ((c : Nat) : Int).toNat) w
    rw [decide_eq_true (by
      rw [List.length_map, t.l, Int.one_mul]
      show ((2 ^ c : Nat) : Int) = 2 ^ c
      rw [Int.natCast_pow]
      rfl)] at e
    exact e
  have e2 := value_none t.v w
  have e3 := shlI 1 ((c : Nat) : Int) (by have := t.cb; exact ⟨by omega, by omega, by decide⟩)
  have i : isNotD .none .none = some (.bool false) := rfl
  generalize (1 : Int) * 2 ^ ((c : Nat) : Int).toNat = P at e1 e3
  generalize hV : rws T = V at e1 e2
  simp [g_p_need_values, b_p_need_values, fnX, e1, e2, e3, i, fnD, sSeq, sSet, sAsg, sRet, sRetN, sDrop, sIf, sFrz, sPass, sBad, sOwn2, sApp, sPutAt, sPutLf, sFor, eV, eC, eBin, eUn, eCall, eTup, eLst, eIf, eAnd, eOr, eNot, isB, tyAnd, tyOr, tyNot, lNil, lCons, aNl, aCs, vD, vS, aPk, pick, eFn, eTyIs, eTyNot, eChain, eSl, pNo, pSo, eOw1, eOw2, eAt, eCl, eLf, eLn, itSeq, itRg1, itRg2, itEn, tyN, opt, DL.setP, DL.setPs, frz1, List.length_cons, List.length_nil, List.cons_append, List.nil_append, List.getElem?_cons_zero, List.getElem?_cons_succ, List.set_cons_zero, List.set_cons_succ, List.replicate, RE.bind_ok, RE.bindS_ok, noEx_ok, Option.bind_some]
theorem notIn_t (x : Int) (L : List Int) : notInG (.int x) (rws L) = some (.bool (!decide (x ∈ L))) := by
  have a := ints_lay L
  show (if PyData.canLayAll0 (L.map PyData.int) = true ∧ (PyData.int x).canLay0 = true ∧ PyData.depthAll (L.map PyData.int) ≤ 60 then some (PyData.bool (!(L.map PyData.int).any fun y => PyData.eqv y (.int x))) else none) = _
  rw [if_pos ⟨a.1, rfl, by omega⟩, any_eqv]
theorem qof_eq {c : Nat} {T : List Int} (t : Tb c T) {ss : List (Int × Int)} (hs : ∀ p ∈ ss, (0 ≤ p.1 ∧ p.1 ≤ ((c : Nat) : Int) - 1) ∧ (0 ≤ p.2 ∧ p.2 ≤ 1)) (ho : ss.Pairwise lt2) (w : DS) :
    g_p_question_of [.val (.int (c : Nat)), .val (sgs ss), .val (rws T)] w = if (0 : Int) ∈ T ∧ (1 : Int) ∈ T then .ok (qd (c : Nat) ss (rowsW 1 T) (rowsW 0 T)) w else .ex "BadParameter" (rws T) w := by
  have e1 := many_ok (n := (c : Nat)) (by have := t.cb; omega) w
  have e2 := signs_ok hs ho w
  have e3 := values_ok t w
  have le := t.le
  have e4 := rows_with_eq (T := T) (by omega) 1 w
  have e5 := rows_with_eq (T := T) (by omega) 0 w
  have n0 := notIn_t 0 T
  have n1 := notIn_t 1 T
  have r : qd (c : Nat) ss (rowsW 1 T) (rowsW 0 T) = .tuple [.int (c : Nat), sgs ss, rws (rowsW 1 T), rws (rowsW 0 T)] := rfl
  rw [r]
  generalize rws (rowsW 1 T) = Y at e4
  generalize rws (rowsW 0 T) = N at e5
  generalize hV : rws T = V at e3 e4 e5 n0 n1
  generalize sgs ss = S at e2
  have s4 : (4 : Nat) ≤ szL := by decide
  by_cases a : (0 : Int) ∈ T
  · by_cases b : (1 : Int) ∈ T
    · rw [if_pos ⟨a, b⟩]
      rw [decide_eq_true a] at n0
      rw [decide_eq_true b] at n1
      simp [g_p_question_of, b_p_question_of, fnX, eFnX, sRaise, e1, e2, e3, e4, e5, n0, n1, s4, fnD, sSeq, sSet, sAsg, sRet, sRetN, sDrop, sIf, sFrz, sPass, sBad, sOwn2, sApp, sPutAt, sPutLf, sFor, eV, eC, eBin, eUn, eCall, eTup, eLst, eIf, eAnd, eOr, eNot, isB, tyAnd, tyOr, tyNot, lNil, lCons, aNl, aCs, vD, vS, aPk, pick, eFn, eTyIs, eTyNot, eChain, eSl, pNo, pSo, eOw1, eOw2, eAt, eCl, eLf, eLn, itSeq, itRg1, itRg2, itEn, tyN, opt, DL.setP, DL.setPs, frz1, List.length_cons, List.length_nil, List.cons_append, List.nil_append, List.getElem?_cons_zero, List.getElem?_cons_succ, List.set_cons_zero, List.set_cons_succ, List.replicate, RE.bind_ok, RE.bindS_ok, noEx_ok, Option.bind_some]
    · rw [if_neg fun h => b h.2]
      rw [decide_eq_true a] at n0
      rw [decide_eq_false b] at n1
      simp [g_p_question_of, b_p_question_of, fnX, eFnX, sRaise, e1, e2, e3, e4, e5, n0, n1, s4, fnD, sSeq, sSet, sAsg, sRet, sRetN, sDrop, sIf, sFrz, sPass, sBad, sOwn2, sApp, sPutAt, sPutLf, sFor, eV, eC, eBin, eUn, eCall, eTup, eLst, eIf, eAnd, eOr, eNot, isB, tyAnd, tyOr, tyNot, lNil, lCons, aNl, aCs, vD, vS, aPk, pick, eFn, eTyIs, eTyNot, eChain, eSl, pNo, pSo, eOw1, eOw2, eAt, eCl, eLf, eLn, itSeq, itRg1, itRg2, itEn, tyN, opt, DL.setP, DL.setPs, frz1, List.length_cons, List.length_nil, List.cons_append, List.nil_append, List.getElem?_cons_zero, List.getElem?_cons_succ, List.set_cons_zero, List.set_cons_succ, List.replicate, RE.bind_ok, RE.bindS_ok, noEx_ok, Option.bind_some]
  · rw [if_neg fun h => a h.1]
    rw [decide_eq_false a] at n0
    simp [g_p_question_of, b_p_question_of, fnX, eFnX, sRaise, e1, e2, e3, e4, e5, n0, n1, s4, fnD, sSeq, sSet, sAsg, sRet, sRetN, sDrop, sIf, sFrz, sPass, sBad, sOwn2, sApp, sPutAt, sPutLf, sFor, eV, eC, eBin, eUn, eCall, eTup, eLst, eIf, eAnd, eOr, eNot, isB, tyAnd, tyOr, tyNot, lNil, lCons, aNl, aCs, vD, vS, aPk, pick, eFn, eTyIs, eTyNot, eChain, eSl, pNo, pSo, eOw1, eOw2, eAt, eCl, eLf, eLn, itSeq, itRg1, itRg2, itEn, tyN, opt, DL.setP, DL.setPs, frz1, List.length_cons, List.length_nil, List.cons_append, List.nil_append, List.getElem?_cons_zero, List.getElem?_cons_succ, List.set_cons_zero, List.set_cons_succ, List.replicate, RE.bind_ok, RE.bindS_ok, noEx_ok, Option.bind_some]
theorem all6 {c : Nat} (hc : 1 ≤ c ∧ c ≤ 8) (w : DS) : g_p_all_signs [.val (.int (c : Nat))] w = .ok (sgs (allS 0 c)) w := by
  rcases (by omega : c = 1 ∨ c = 2 ∨ c = 3 ∨ c = 4 ∨ c = 5 ∨ c = 6 ∨ c = 7 ∨ c = 8) with rfl | rfl | rfl | rfl | rfl | rfl | rfl | rfl <;> rfl
theorem ris6 {c : Nat} (hc : 1 ≤ c ∧ c ≤ 8) (w : DS) : g_p_rising_signs [.val (.int (c : Nat))] w = .ok (sgs (risS (c : Nat))) w := by
  rcases (by omega : c = 1 ∨ c = 2 ∨ c = 3 ∨ c = 4 ∨ c = 5 ∨ c = 6 ∨ c = 7 ∨ c = 8) with rfl | rfl | rfl | rfl | rfl | rfl | rfl | rfl <;> rfl
end K03

namespace K03
open L2 PySem PySem.Spec PyProof.Rows DL
noncomputable def rsB : SM := (sSeq (sSet 3 (eComp [4, 5] (itEn (eV 0)) (.tp [(.nm 4), (.nm 5)]) (isB (eBin eqD (eBin andD (eV 4) (eV 1)) (eV 1))) (eV 5))) (sIf (tyAnd (isB (eBin eqD (eV 2) (eC (.int 1)))) (isB (eBin inG (eC (.int 0)) (eV 3)))) (sRet (eC (.bool false))) sPass))
noncomputable def rs0 : SM := (sFor (.tp [(.nm 1), (.nm 2)]) (itEn (eV 0)) rsB)
noncomputable def rs1 : SM := (sRet (eC (.bool true)))
theorem rs_split : b_l_rises = (sSeq rs0 rs1) := rfl
noncomputable def wo0 : SM := (sIf (isB (eBin gtD (eFn g_l_draw (aCs (vS 0) (aCs (vD (eC (.int 3))) aNl))) (eC (.int 0)))) (sRet (eCall tupleD (lCons (eComp [4] (itRg1 (eFn g_l_power (aCs (vD (eV 1)) aNl))) (.nm 4) tYesD (eFn g_l_draw (aCs (vS 0) (aCs (vD (eC (.int 2))) aNl)))) lNil))) sPass)
noncomputable def wo1 : SM := (sSet 2 (eComp [5] (itRg1 (eBin addD (eC (.int 1)) (eFn g_l_draw (aCs (vS 0) (aCs (vD (eC (.int 3))) aNl))))) (.nm 5) tYesD (eFn g_l_draw (aCs (vS 0) (aCs (vD (eFn g_l_power (aCs (vD (eV 1)) aNl))) aNl)))))
noncomputable def wo2 : SM := (sOwn 3 lNil)
noncomputable def woB : SM := (sApp 3 (eIf (isB (eBin neD (eComp [6] (itSeq (eV 2)) (.nm 6) (isB (eBin eqD (eBin andD (eV 6) (eV 4)) (eV 6))) (eC (.int 1))) (eLst lNil))) (eC (.int 1)) (eC (.int 0))))
noncomputable def wo3 : SM := (sFor (.nm 4) (itRg1 (eFn g_l_power (aCs (vD (eV 1)) aNl))) woB)
noncomputable def wo4 : SM := (sFrz 3 (sRet (eCall tupleD (lCons (eV 3) lNil))))
theorem wo_split : b_l_worths = (sSeq wo0 (sSeq wo1 (sSeq wo2 (sSeq wo3 wo4)))) := rfl
noncomputable def rf0 : SM := (sSet 3 (eC .none))
noncomputable def rf1 : SM := (sTryLk T_ "BadParameter" 4 3 2 (eFnX g_p_question_of (aCs (vD (eV 0)) (aCs (vD (eV 1)) (aCs (vD (eV 2)) aNl)))))
noncomputable def rf2 : SM := (sRet (eC (.bool false)))
theorem rf_split : b_l_refused = (sSeq rf0 (sSeq rf1 rf2)) := rfl
noncomputable def tr0 : SM := (sSet 3 (eCall tupleD (lCons (eComp [7] (itSeq (eFn g_p_all_signs (aCs (vD (eV 1)) aNl))) (.nm 7) (isB (eBin eqD (eFn g_l_draw (aCs (vS 0) (aCs (vD (eC (.int 2))) aNl))) (eC (.int 0)))) (eV 7)) lNil)))
noncomputable def tr1 : SM := (sIf (isB (eBin eqD (eUn lenSetG (eV 2)) (eC (.int 1)))) (sRet (eFn g_l_refused (aCs (vD (eV 1)) (aCs (vD (eV 3)) (aCs (vD (eV 2)) aNl))))) sPass)
noncomputable def tr2 : SM := (sSet 4 (eCall tupleD (lCons (eComp [8, 9] (itEn (eV 2)) (.tp [(.nm 8), (.nm 9)]) (isB (eBin eqD (eV 9) (eC (.int 1)))) (eV 8)) lNil)))
noncomputable def tr3 : SM := (sSet 5 (eCall tupleD (lCons (eComp [8, 9] (itEn (eV 2)) (.tp [(.nm 8), (.nm 9)]) (isB (eBin eqD (eV 9) (eC (.int 0)))) (eV 8)) lNil)))
noncomputable def trB : SM := (sIf (tyNot (isB (eFn g_l_like (aCs (vD (eFn g_p_question_of (aCs (vD (eV 1)) (aCs (vD (eV 6)) (aCs (vD (eV 2)) aNl))))) (aCs (vD (eTup (lCons (eV 1) (lCons (eV 6) (lCons (eV 4) (lCons (eV 5) lNil)))))) aNl))))) (sRet (eC (.bool false))) sPass)
noncomputable def tr4 : SM := (sFor (.nm 6) (itSeq (eTup (lCons (eV 3) (lCons (eFn g_p_all_signs (aCs (vD (eV 1)) aNl)) (lCons (eFn g_p_rising_signs (aCs (vD (eV 1)) aNl)) lNil))))) trB)
noncomputable def tr5 : SM := (sIf (isB (eBin isNotD (eFn g_p_can_be (aCs (vD (eFn g_p_question_of (aCs (vD (eV 1)) (aCs (vD (eFn g_p_all_signs (aCs (vD (eV 1)) aNl))) (aCs (vD (eV 2)) aNl))))) aNl)) (eC (.bool true)))) (sRet (eC (.bool false))) sPass)
noncomputable def tr6 : SM := (sRet (eFn g_l_like (aCs (vD (eFn g_p_can_be (aCs (vD (eFn g_p_question_of (aCs (vD (eV 1)) (aCs (vD (eFn g_p_rising_signs (aCs (vD (eV 1)) aNl))) (aCs (vD (eV 2)) aNl))))) aNl))) (aCs (vD (eFn g_l_rises (aCs (vD (eV 2)) aNl))) aNl))))
theorem tr_split : b_l_right = (sSeq tr0 (sSeq tr1 (sSeq tr2 (sSeq tr3 (sSeq tr4 (sSeq tr5 tr6)))))) := rfl
noncomputable def lc0 : SM := (sSet 5 (eLst (lCons (eTup lNil) lNil)))
noncomputable def lcA : SM := (sSeq (sSet 8 (eLst lNil)) (sSeq (sFor (.nm 7) (itSeq (eV 5)) (sSet 8 (eBin addD (eV 8) (eLst (lCons (eBin addD (eV 7) (eTup (lCons (eC (.int 0)) lNil))) (lCons (eBin addD (eV 7) (eTup (lCons (eC (.int 1)) lNil))) lNil)))))) (sSet 5 (eV 8))))
noncomputable def lc1 : SM := (sFor (.nm 6) (itRg1 (eFn g_l_power (aCs (vD (eV 2)) aNl))) lcA)
noncomputable def lcR : SM := (sIf (tyNot (isB (eFn g_l_right (aCs (vS 1) (aCs (vD (eV 2)) (aCs (vD (eV 7)) aNl)))))) (sRet (eC (.bool false))) sPass)
noncomputable def lc2 : SM := (sFor (.nm 7) (itSeq (eV 5)) lcR)
noncomputable def lwC : SM := (sSeq (sSet 5 (eLst (lCons (eTup lNil) lNil))) (sSeq (sFor (.nm 6) (itRg1 (eFn g_l_power (aCs (vD (eV 2)) aNl))) (sSeq (sSet 8 (eLst lNil)) (sSeq (sFor (.nm 7) (itSeq (eV 5)) (sSet 8 (eBin addD (eV 8) (eLst (lCons (eBin addD (eV 7) (eTup (lCons (eC (.int 0)) lNil))) (lCons (eBin addD (eV 7) (eTup (lCons (eC (.int 1)) lNil))) lNil)))))) (sSet 5 (eV 8))))) (sFor (.nm 7) (itSeq (eV 5)) (sIf (tyNot (isB (eFn g_l_right (aCs (vS 1) (aCs (vD (eV 2)) (aCs (vD (eV 7)) aNl)))))) (sRet (eC (.bool false))) sPass))))
noncomputable def lw0 : SM := (sFor (.nm 2) (itSeq (eTup (lCons (eC (.int 1)) (lCons (eC (.int 2)) lNil)))) lwC)
noncomputable def lwD : SM := (sSeq (sSet 2 (eBin addD (eC (.int 3)) (eFn g_l_draw (aCs (vS 1) (aCs (vD (eC (.int 4))) aNl))))) (sIf (tyNot (isB (eFn g_l_right (aCs (vS 1) (aCs (vD (eV 2)) (aCs (vD (eFn g_l_worths (aCs (vS 1) (aCs (vD (eV 2)) aNl)))) aNl)))))) (sRet (eC (.bool false))) sPass))
noncomputable def lw1 : SM := (sFor (.nm 3) (itRg1 (eC (.int 4))) lwD)
noncomputable def lw2 : SM := (sSet 4 (eFn g_p_question_of (aPk [2, 1, 0] (aCs (vD (eBin addD (eBin mulG (eTup (lCons (eC (.int 0)) lNil)) (eC (.int 255))) (eTup (lCons (eC (.int 1)) lNil)))) (aCs (vD (eFn g_p_rising_signs (aCs (vD (eC (.int 8))) aNl))) (aCs (vD (eC (.int 8))) aNl))))))
noncomputable def lw3 : SM := (sRet (eFn g_l_like (aCs (vD (eLst (lCons (eBin ixD (eV 4) (eC (.int 2))) (lCons (eCall lenD (lCons (eBin ixD (eV 4) (eC (.int 3))) lNil)) (lCons (eFn g_p_can_be (aCs (vD (eV 4)) aNl)) lNil))))) (aCs (vD (eLst (lCons (eTup (lCons (eC (.int 255)) lNil)) (lCons (eC (.int 255)) (lCons (eC (.bool true)) lNil))))) aNl))))
theorem lc_split : lwC = (sSeq lc0 (sSeq lc1 lc2)) := rfl
theorem lw_split : b_law_ = (sSeq lw0 (sSeq lw1 (sSeq lw2 lw3))) := rfl
theorem neL1 {α : Type} (l : List α) : neD (.list (l.map fun _ => PyData.int 1)) (.list []) = some (.bool (!l.isEmpty)) := by
  have e : l.map (fun _ => PyData.int 1) = (l.map fun _ => (1 : Int)).map PyData.int := by rw [List.map_map]; rfl
  rw [e, neLI]
  cases l <;> rfl
theorem cmpL_ex {α β : Type} {p : Pat} {f : EM} {r : List SV} {sel : α → PyData} (emb : β → PyData) (Pb : β → Prop) (k B : Nat) (h : ∀ a w m, Gd m w → m < B → ∃ r1 b w2, setP p (sel a) r = some r1 ∧ f r1 w = .ok (emb b) w2 ∧ Pb b ∧ Gd (m + k) w2) :
    ∀ (items : List α) (m : Nat) (w : DS), Gd m w → m + k * items.length < B → ∃ (bs : List β) (w2 : DS), cmpL p tYesD f r (items.map sel) w = some (bs.map emb, w2) ∧ bs.length = items.length ∧ (∀ b ∈ bs, Pb b) ∧ Gd (m + k * items.length) w2
  | [], m, w, g, _ => ⟨[], w, rfl, rfl, (fun _ h => by cases h), g⟩
  | a :: l, m, w, g, hm => by
    have ek : k * (a :: l).length = k + k * l.length := by rw [List.length_cons, Nat.mul_succ, Nat.add_comm]
    rw [ek] at hm
    obtain ⟨r1, b, w1, e1, e2, hb, g1⟩ := h a w m g (by omega)
    obtain ⟨bs, w2, e3, ln, hbs, g2⟩ := cmpL_ex emb Pb k B h l (m + k) w1 g1 (by omega)
    refine ⟨b :: bs, w2, ?_, by simp [ln], fun x hx => ?_, by rw [ek, ← Nat.add_assoc]; exact g2⟩
    · simp [cmpL, e1, e2, e3, toOpt, tYesD]
    · rcases List.mem_cons.mp hx with rfl | hx
      · exact hb
      · exact hbs x hx
theorem comp_ex {α β : Type} {vs : List Nat} {fi : IM} {p : Pat} {f : EM} {r : List SV} {sel : α → PyData} (emb : β → PyData) (Pb : β → Prop) (k B : Nat) {items : List α} {w w1 : DS} {m : Nat} (hi : fi r w = .ok (items.map sel) w1)
    (h : ∀ a w m, Gd m w → m < B → ∃ r1 b w2, setP p (sel a) (wipeR r vs) = some r1 ∧ f r1 w = .ok (emb b) w2 ∧ Pb b ∧ Gd (m + k) w2) (g : Gd m w1) (hm : m + k * items.length < B) (hl : items.length ≤ szL) :
    ∃ (bs : List β) (w2 : DS), eComp vs fi p tYesD f r w = .ok (.list (bs.map emb)) w2 ∧ bs.length = items.length ∧ (∀ b ∈ bs, Pb b) ∧ Gd (m + k * items.length) w2 := by
  obtain ⟨bs, w2, e, ln, hb, g2⟩ := cmpL_ex emb Pb k B h items m w1 g hm
  refine ⟨bs, w2, ?_, ln, hb, g2⟩
  unfold eComp
  rw [hi]
  show (match cmpL p tYesD f (wipeR r vs) (items.map sel) w1 with
    | some (ys, w2) => if ys.length ≤ szL then RE.ok (PyData.list ys) w2 else RE.bad
    | none => RE.bad) = _
  rw [e]
  exact if_pos (by rw [List.length_map, ln]; exact hl)
/-! ## tables that never fall -/
theorem in_l (x : Int) (L : List Int) : inG (.int x) (.list (L.map .int)) = some (.bool (decide (x ∈ L))) := by
  have a := ints_lay L
  show (if PyData.canLayAll0 (L.map PyData.int) = true ∧ (PyData.int x).canLay0 = true ∧ PyData.depthAll (L.map PyData.int) ≤ 60 then some (PyData.bool ((L.map PyData.int).any fun y => PyData.eqv y (.int x))) else none) = _
  rw [if_pos ⟨a.1, rfl, by omega⟩, any_eqv]
def overL (T : List Int) (l : Int) : List Int := ((enI 0 T).filter fun q => decide (Builtin.bitAnd ((q.1 : Nat) : Int) l = l)).map (·.2)
theorem rsB_eq {T : List Int} (hl : T.length ≤ 1000) (p : Nat × Int) (s3 s4 s5 : SV) (w : DS) : ∃ r3, rsB [.val (rws T), .val (.int (p.1 : Nat)), .val (.int p.2), s3, s4, s5] w = if p.2 = 1 ∧ (0 : Int) ∈ overL T (p.1 : Nat) then .rt (.bool false) w else .nx [.val (rws T), .val (.int (p.1 : Nat)), .val (.int p.2), r3, s4, s5] w := by
  have e := comp_eq (vs := [4, 5]) (fi := itEn (eV 0)) (p := .tp [.nm 4, .nm 5]) (t := isB (eBin eqD (eBin andD (eV 4) (eV 1)) (eV 1))) (f := eV 5) (r := [.val (rws T), .val (.int (p.1 : Nat)), .val (.int p.2), s3, s4, s5]) (w := w) (items := enI 0 T) (sel := sel2) (fun q => decide (Builtin.bitAnd ((q.1 : Nat) : Int) (p.1 : Nat) = (p.1 : Nat))) (fun q => .int q.2) (by
    show RE.ok (enD 0 (T.map PyData.int)) w = _
    rw [enD_I]) (fun q _ => ⟨[.val (rws T), .val (.int (p.1 : Nat)), .val (.int p.2), noOwn s3, .val (.int (q.1 : Nat)), .val (.int q.2)], rfl, by
      have ea : andD (.int ((q.1 : Nat) : Int)) (.int ((p.1 : Nat) : Int)) = some (.int (Builtin.bitAnd ((q.1 : Nat) : Int) (p.1 : Nat))) := rfl
      have e := eqI (Builtin.bitAnd ((q.1 : Nat) : Int) (p.1 : Nat)) (p.1 : Nat)
      generalize Builtin.bitAnd ((q.1 : Nat) : Int) (p.1 : Nat) = z at ea e
      generalize ((q.1 : Nat) : Int) = a at ea
      generalize ((p.1 : Nat) : Int) = b at ea e
      simp [ea, e, fnD, sSeq, sSet, sAsg, sRet, sRetN, sDrop, sIf, sFrz, sPass, sBad, sOwn2, sApp, sPutAt, sPutLf, sFor, eV, eC, eBin, eUn, eCall, eTup, eLst, eIf, eAnd, eOr, eNot, isB, tyAnd, tyOr, tyNot, lNil, lCons, aNl, aCs, vD, vS, aPk, pick, eFn, eTyIs, eTyNot, eChain, eSl, pNo, pSo, eOw1, eOw2, eAt, eCl, eLf, eLn, itSeq, itRg1, itRg2, itEn, tyN, opt, DL.setP, DL.setPs, frz1, List.length_cons, List.length_nil, List.cons_append, List.nil_append, List.getElem?_cons_zero, List.getElem?_cons_succ, List.set_cons_zero, List.set_cons_succ, List.replicate, RE.bind_ok, RE.bindS_ok, noEx_ok, Option.bind_some], fun _ => by simp [fnD, sSeq, sSet, sAsg, sRet, sRetN, sDrop, sIf, sFrz, sPass, sBad, sOwn2, sApp, sPutAt, sPutLf, sFor, eV, eC, eBin, eUn, eCall, eTup, eLst, eIf, eAnd, eOr, eNot, isB, tyAnd, tyOr, tyNot, lNil, lCons, aNl, aCs, vD, vS, aPk, pick, eFn, eTyIs, eTyNot, eChain, eSl, pNo, pSo, eOw1, eOw2, eAt, eCl, eLf, eLn, itSeq, itRg1, itRg2, itEn, tyN, opt, DL.setP, DL.setPs, frz1, List.length_cons, List.length_nil, List.cons_append, List.nil_append, List.getElem?_cons_zero, List.getElem?_cons_succ, List.set_cons_zero, List.set_cons_succ, List.replicate, RE.bind_ok, RE.bindS_ok, noEx_ok, Option.bind_some]⟩) (by rw [enI_len]; unfold szL; omega)
  have em : ((enI 0 T).filter fun q => decide (Builtin.bitAnd ((q.1 : Nat) : Int) (p.1 : Nat) = (p.1 : Nat))).map (fun q => PyData.int q.2) = (overL T (p.1 : Nat)).map .int := by unfold overL; rw [List.map_map]; rfl
  rw [em] at e
  have i0 := in_l 0 (overL T (p.1 : Nat))
  have q1 := eqI p.2 1
  refine ⟨.val (.list ((overL T (p.1 : Nat)).map .int)), ?_⟩
  generalize (overL T (p.1 : Nat)).map PyData.int = L at e i0
  generalize ((p.1 : Nat) : Int) = P1 at e i0
  generalize hb : eComp [4, 5] (itEn (eV 0)) (.tp [(.nm 4), (.nm 5)]) (isB (eBin eqD (eBin andD (eV 4) (eV 1)) (eV 1))) (eV 5) = bd at e
  simp only [rsB, hb]
  by_cases a : p.2 = 1
  · rw [decide_eq_true a] at q1
    by_cases b : (0 : Int) ∈ overL T P1
    · rw [decide_eq_true b] at i0
      rw [if_pos ⟨a, b⟩]
      simp [e, i0, q1, fnD, sSeq, sSet, sAsg, sRet, sRetN, sDrop, sIf, sFrz, sPass, sBad, sOwn2, sApp, sPutAt, sPutLf, sFor, eV, eC, eBin, eUn, eCall, eTup, eLst, eIf, eAnd, eOr, eNot, isB, tyAnd, tyOr, tyNot, lNil, lCons, aNl, aCs, vD, vS, aPk, pick, eFn, eTyIs, eTyNot, eChain, eSl, pNo, pSo, eOw1, eOw2, eAt, eCl, eLf, eLn, itSeq, itRg1, itRg2, itEn, tyN, opt, DL.setP, DL.setPs, frz1, List.length_cons, List.length_nil, List.cons_append, List.nil_append, List.getElem?_cons_zero, List.getElem?_cons_succ, List.set_cons_zero, List.set_cons_succ, List.replicate, RE.bind_ok, RE.bindS_ok, noEx_ok, Option.bind_some]
    · rw [decide_eq_false b] at i0
      rw [if_neg fun h => b h.2]
      simp [e, i0, q1, fnD, sSeq, sSet, sAsg, sRet, sRetN, sDrop, sIf, sFrz, sPass, sBad, sOwn2, sApp, sPutAt, sPutLf, sFor, eV, eC, eBin, eUn, eCall, eTup, eLst, eIf, eAnd, eOr, eNot, isB, tyAnd, tyOr, tyNot, lNil, lCons, aNl, aCs, vD, vS, aPk, pick, eFn, eTyIs, eTyNot, eChain, eSl, pNo, pSo, eOw1, eOw2, eAt, eCl, eLf, eLn, itSeq, itRg1, itRg2, itEn, tyN, opt, DL.setP, DL.setPs, frz1, List.length_cons, List.length_nil, List.cons_append, List.nil_append, List.getElem?_cons_zero, List.getElem?_cons_succ, List.set_cons_zero, List.set_cons_succ, List.replicate, RE.bind_ok, RE.bindS_ok, noEx_ok, Option.bind_some]
  · rw [decide_eq_false a] at q1
    rw [if_neg fun h => a h.1]
    simp [e, q1, fnD, sSeq, sSet, sAsg, sRet, sRetN, sDrop, sIf, sFrz, sPass, sBad, sOwn2, sApp, sPutAt, sPutLf, sFor, eV, eC, eBin, eUn, eCall, eTup, eLst, eIf, eAnd, eOr, eNot, isB, tyAnd, tyOr, tyNot, lNil, lCons, aNl, aCs, vD, vS, aPk, pick, eFn, eTyIs, eTyNot, eChain, eSl, pNo, pSo, eOw1, eOw2, eAt, eCl, eLf, eLn, itSeq, itRg1, itRg2, itEn, tyN, opt, DL.setP, DL.setPs, frz1, List.length_cons, List.length_nil, List.cons_append, List.nil_append, List.getElem?_cons_zero, List.getElem?_cons_succ, List.set_cons_zero, List.set_cons_succ, List.replicate, RE.bind_ok, RE.bindS_ok, noEx_ok, Option.bind_some]
theorem and_comm2 (a b : Nat) : Builtin.bitAnd ((a : Nat) : Int) ((b : Nat) : Int) = Builtin.bitAnd ((b : Nat) : Int) ((a : Nat) : Int) := by rw [land_eq, land_eq, Nat.and_comm]
theorem over_mem {T : List Int} {l : Int} {x : Int} : x ∈ overL T l ↔ ∃ i : Nat, T[i]? = some x ∧ Builtin.bitAnd ((i : Nat) : Int) l = l := by
  unfold overL
  rw [List.mem_map]
  constructor
  · rintro ⟨q, hq, rfl⟩
    rw [List.mem_filter] at hq
    obtain ⟨i, h1, h2⟩ := (enI_mem 0 T q).mp hq.1
    exact ⟨i, h1, by have := of_decide_eq_true hq.2; rw [h2, Nat.zero_add] at this; exact this⟩
  · rintro ⟨i, h1, h2⟩
    exact ⟨(i, x), List.mem_filter.mpr ⟨(enI_mem 0 T _).mpr ⟨i, h1, by simp⟩, decide_eq_true h2⟩, rfl⟩
theorem rises_iff {c : Nat} {T : List Int} (t : Tb c T) : (Fst (risS (c : Nat)) (rowsW 1 T) (rowsW 0 T)).isNone = true ↔ ∀ p ∈ enI 0 T, ¬ (p.2 = 1 ∧ (0 : Int) ∈ overL T (p.1 : Nat)) := by
  rw [Option.isNone_iff_eq_none, Fst_none]
  constructor
  · intro h p hp ⟨h1, h2⟩
    obtain ⟨i, a1, a2⟩ := (enI_mem 0 T p).mp hp
    obtain ⟨j, b1, b2⟩ := over_mem.mp h2
    rw [Nat.zero_add] at a2
    have hy : ((i : Nat) : Int) ∈ rowsW 1 T := rowsW_mem.mpr ⟨i, rfl, by rw [a1, h1]⟩
    have hn : ((j : Nat) : Int) ∈ rowsW 0 T := rowsW_mem.mpr ⟨j, rfl, b1⟩
    have s := h _ hy _ hn
    rw [sep_ris (rowsW_bd t 1 _ hy) (by omega), and_comm2, ← a2, b2, decide_eq_true rfl] at s
    exact absurd s (by decide)
  · intro h y hy n hn
    rw [sep_ris (rowsW_bd t 1 y hy) (rowsW_bd t 0 n hn).1]
    obtain ⟨i, rfl, a1⟩ := rowsW_mem.mp hy
    obtain ⟨j, rfl, b1⟩ := rowsW_mem.mp hn
    rw [Bool.not_eq_true', decide_eq_false_iff_not]
    intro hb
    refine h (i, 1) ((enI_mem 0 T _).mpr ⟨i, a1, by simp⟩) ⟨rfl, over_mem.mpr ⟨j, b1, ?_⟩⟩
    rw [and_comm2]
    exact hb
theorem rises_eq {c : Nat} {T : List Int} (t : Tb c T) (w : DS) : g_l_rises [.val (rws T)] w = .ok (.bool (Fst (risS (c : Nat)) (rowsW 1 T) (rowsW 0 T)).isNone) w := by
  have le := t.le
  have lp := forL_find (p := .tp [.nm 1, .nm 2]) (body := rsB) (sel := sel2) (w := w) (fun r => ∃ s1 s2 s3 s4 s5, r = [.val (rws T), s1, s2, s3, s4, s5]) (fun p => if p.2 = 1 ∧ (0 : Int) ∈ overL T (p.1 : Nat) then some (.bool false) else none) (enI 0 T) (fun p hp r hr => by
    obtain ⟨s1, s2, s3, s4, s5, rfl⟩ := hr
    obtain ⟨r3, e⟩ := rsB_eq (T := T) (by omega) p s3 s4 s5 w
    refine ⟨[.val (rws T), .val (.int (p.1 : Nat)), .val (.int p.2), s3, s4, s5], rfl, ?_⟩
    by_cases h : p.2 = 1 ∧ (0 : Int) ∈ overL T (p.1 : Nat)
    · rw [if_pos h] at e
      exact .inl ⟨_, if_pos h, e⟩
    · rw [if_neg h] at e
      exact .inr ⟨if_neg h, _, e, _, _, _, _, _, rfl⟩) [.val (rws T), .un, .un, .un, .un, .un] ⟨_, _, _, _, _, rfl⟩
  have er : ∀ (b : Bool), (forL (.tp [.nm 1, .nm 2]) rsB ((enI 0 T).map sel2) [.val (rws T), .un, .un, .un, .un, .un] w = .rt (.bool false) w ∧ b = false) ∨ ((∃ r2, forL (.tp [.nm 1, .nm 2]) rsB ((enI 0 T).map sel2) [.val (rws T), .un, .un, .un, .un, .un] w = .nx r2 w) ∧ b = true) → g_l_rises [.val (rws T)] w = .ok (.bool b) w := fun b h => by
    rw [← enD_I] at h
    generalize hb : rsB = bd at h
    rcases h with ⟨h, rfl⟩ | ⟨⟨r2, h⟩, rfl⟩
    · simp only [g_l_rises, rs_split, rs0, rs1, hb]
      simp [h, fnD, sSeq, sFor, itEn, sRet, eV, eC, RE.bind_ok, RE.bindS_ok, List.replicate]
    · simp only [g_l_rises, rs_split, rs0, rs1, hb]
      simp [h, fnD, sSeq, sFor, itEn, sRet, eV, eC, RE.bind_ok, RE.bindS_ok, List.replicate]
  refine er _ ?_
  rcases lp with ⟨d, e1, e2⟩ | ⟨e1, r2, e2, _⟩
  · obtain ⟨p, hp, h3⟩ := List.exists_of_findSome?_eq_some e1
    by_cases h : p.2 = 1 ∧ (0 : Int) ∈ overL T (p.1 : Nat)
    · rw [if_pos h] at h3
      cases h3
      refine .inl ⟨e2, Bool.eq_false_iff.mpr fun z => (rises_iff t).mp z p hp h⟩
    · rw [if_neg h] at h3; cases h3
  · refine .inr ⟨⟨r2, e2⟩, (rises_iff t).mpr fun p hp h => ?_⟩
    have z := List.findSome?_eq_none_iff.mp e1 p hp
    rw [if_pos h] at z
    cases z
/-! ## drawn tables -/
theorem woB_eq (c : Int) (FL F : List Int) (hl : FL.length ≤ 100) (hF : F.length ≤ 1000) (l : Int) (s5 s6 : SV) (w : DS) : ∃ v : Int, (v = 0 ∨ v = 1) ∧ woB [.st, .val (.int c), .val (.list (FL.map .int)), .own (F.map .int), .val (.int l), s5, s6] w = .nx [.st, .val (.int c), .val (.list (FL.map .int)), .own ((F ++ [v]).map .int), .val (.int l), s5, s6] w := by
  have e := comp_eq (vs := [6]) (fi := itSeq (eV 2)) (p := .nm 6) (t := isB (eBin eqD (eBin andD (eV 6) (eV 4)) (eV 6))) (f := eC (.int 1)) (r := [.st, .val (.int c), .val (.list (FL.map .int)), .own (F.map .int), .val (.int l), s5, s6]) (w := w) (items := FL) (sel := PyData.int) (fun x => decide (Builtin.bitAnd x l = x)) (fun _ => .int 1) rfl
    (fun x _ => ⟨[.st, .val (.int c), .val (.list (FL.map .int)), .un, .val (.int l), noOwn s5, .val (.int x)], rfl, by
      have ea : andD (.int x) (.int l) = some (.int (Builtin.bitAnd x l)) := rfl
      have e := eqI (Builtin.bitAnd x l) x
      generalize Builtin.bitAnd x l = z at ea e
      simp [ea, e, fnD, sSeq, sSet, sAsg, sRet, sRetN, sDrop, sIf, sFrz, sPass, sBad, sOwn2, sApp, sPutAt, sPutLf, sFor, eV, eC, eBin, eUn, eCall, eTup, eLst, eIf, eAnd, eOr, eNot, isB, tyAnd, tyOr, tyNot, lNil, lCons, aNl, aCs, vD, vS, aPk, pick, eFn, eTyIs, eTyNot, eChain, eSl, pNo, pSo, eOw1, eOw2, eAt, eCl, eLf, eLn, itSeq, itRg1, itRg2, itEn, tyN, opt, DL.setP, DL.setPs, frz1, List.length_cons, List.length_nil, List.cons_append, List.nil_append, List.getElem?_cons_zero, List.getElem?_cons_succ, List.set_cons_zero, List.set_cons_succ, List.replicate, RE.bind_ok, RE.bindS_ok, noEx_ok, Option.bind_some], fun _ => rfl⟩) (by unfold szL; omega)
  have en := neL1 (FL.filter fun x => decide (Builtin.bitAnd x l = x))
  generalize (!(FL.filter fun x => decide (Builtin.bitAnd x l = x)).isEmpty) = b at en
  generalize (FL.filter fun x => decide (Builtin.bitAnd x l = x)).map (fun _ => PyData.int 1) = L at e en
  have hfl : F.length < szL := by unfold szL; omega
  generalize hb : eComp [6] (itSeq (eV 2)) (.nm 6) (isB (eBin eqD (eBin andD (eV 6) (eV 4)) (eV 6))) (eC (.int 1)) = bd at e
  have s0 : (0 : Nat) ≤ szL := by decide
  generalize FL.map PyData.int = FD at e
  cases b with
  | true => exact ⟨1, .inr rfl, by simp only [woB, hb]; simp [e, en, s0, hfl, List.map_append, fnD, sSeq, sSet, sAsg, sRet, sRetN, sDrop, sIf, sFrz, sPass, sBad, sOwn2, sApp, sPutAt, sPutLf, sFor, eV, eC, eBin, eUn, eCall, eTup, eLst, eIf, eAnd, eOr, eNot, isB, tyAnd, tyOr, tyNot, lNil, lCons, aNl, aCs, vD, vS, aPk, pick, eFn, eTyIs, eTyNot, eChain, eSl, pNo, pSo, eOw1, eOw2, eAt, eCl, eLf, eLn, itSeq, itRg1, itRg2, itEn, tyN, opt, DL.setP, DL.setPs, frz1, List.length_cons, List.length_nil, List.cons_append, List.nil_append, List.getElem?_cons_zero, List.getElem?_cons_succ, List.set_cons_zero, List.set_cons_succ, List.replicate, RE.bind_ok, RE.bindS_ok, noEx_ok, Option.bind_some]⟩
  | false => exact ⟨0, .inl rfl, by simp only [woB, hb]; simp [e, en, s0, hfl, List.map_append, fnD, sSeq, sSet, sAsg, sRet, sRetN, sDrop, sIf, sFrz, sPass, sBad, sOwn2, sApp, sPutAt, sPutLf, sFor, eV, eC, eBin, eUn, eCall, eTup, eLst, eIf, eAnd, eOr, eNot, isB, tyAnd, tyOr, tyNot, lNil, lCons, aNl, aCs, vD, vS, aPk, pick, eFn, eTyIs, eTyNot, eChain, eSl, pNo, pSo, eOw1, eOw2, eAt, eCl, eLf, eLn, itSeq, itRg1, itRg2, itEn, tyN, opt, DL.setP, DL.setPs, frz1, List.length_cons, List.length_nil, List.cons_append, List.nil_append, List.getElem?_cons_zero, List.getElem?_cons_succ, List.set_cons_zero, List.set_cons_succ, List.replicate, RE.bind_ok, RE.bindS_ok, noEx_ok, Option.bind_some]⟩
theorem wo_loop (c : Int) (FL : List Int) (hl : FL.length ≤ 100) (w : DS) (s5 s6 : SV) : ∀ (k : Nat) (lo : Int) (F : List Int) (s4 : SV), F.length + k ≤ 1000 → (∀ x ∈ F, x = 0 ∨ x = 1) → ∃ (G : List Int) (s42 : SV), (∀ x ∈ G, x = 0 ∨ x = 1) ∧ G.length = F.length + k ∧
    forL (.nm 4) woB (rgD lo k) [.st, .val (.int c), .val (.list (FL.map .int)), .own (F.map .int), s4, s5, s6] w = .nx [.st, .val (.int c), .val (.list (FL.map .int)), .own (G.map .int), s42, s5, s6] w
  | 0, lo, F, s4, _, h => ⟨F, s4, h, by simp, by simp [rgD, forL]⟩
  | k + 1, lo, F, s4, hk, h => by
    obtain ⟨v, hv, e⟩ := woB_eq c FL F hl (by omega) lo s5 s6 w
    obtain ⟨G, s42, h1, h2, e2⟩ := wo_loop c FL hl w s5 s6 k (lo + 1) (F ++ [v]) (.val (.int lo)) (by rw [List.length_append, List.length_singleton]; omega) (fun x hx => by
      rcases List.mem_append.mp hx with z | z
      · exact h x z
      · rw [List.mem_singleton.mp z]; exact hv)
    rw [List.length_append, List.length_singleton] at h2
    refine ⟨G, s42, h1, by omega, ?_⟩
    rw [rgD_succ, forL_nx rfl e]
    exact e2
theorem worths_eq {c : Nat} (hc : 1 ≤ c ∧ c ≤ 6) {m : Nat} {w : DS} (g : Gd m w) (hm : m + 200 < 2 ^ 60) : ∃ (T : List Int) (w2 : DS), g_l_worths [.st, .val (.int (c : Nat))] w = .ok (rws T) w2 ∧ Tb c T ∧ Gd (m + 100) w2 := by
  have pN : 2 ^ c ≤ 2 ^ 6 := Nat.pow_le_pow_right (by decide) hc.2
  have p0 : 0 < 2 ^ c := Nat.pow_pos (by decide)
  have pz : ((2 : Int) ^ ((c : Nat) : Int).toNat) = ((2 ^ c : Nat) : Int) := by
    show (2 : Int) ^ c = _
    rw [Int.natCast_pow]
    rfl
  generalize hP : 2 ^ c = P at pN p0 pz
  have ep : ∀ w, g_l_power [.val (.int (c : Nat))] w = .ok (.int (P : Nat)) w := fun w => by
    rw [power_eq (c : Nat) (by omega) w, pz]
  obtain ⟨v, w1, e1, v0, v1, g1⟩ := draw_ok g (by omega) 3 (by decide) (by decide)
  have cP : -16777216 ≤ ((P : Nat) : Int) ∧ ((P : Nat) : Int) ≤ 16777216 := by omega
  have hi : ∀ (w : DS) (s2 s3 s4 s5 s6 : SV), itRg1 (eFn g_l_power (aCs (vD (eV 1)) aNl)) [.st, .val (.int (c : Nat)), s2, s3, s4, s5, s6] w = .ok (rgD 0 P) w := fun w s2 s3 s4 s5 s6 => by
    simp [itRg1, eFn, aCs, aNl, vD, eV, RE.bind_ok, noEx_ok, ep, cP]
  by_cases h : 0 < v
  · obtain ⟨bs, w2, e2, ln, hb, g2⟩ := comp_ex (vs := [4]) (fi := itRg1 (eFn g_l_power (aCs (vD (eV 1)) aNl))) (p := .nm 4) (f := eFn g_l_draw (aCs (vS 0) (aCs (vD (eC (.int 2))) aNl))) (r := [.st, .val (.int (c : Nat)), .un, .un, .un, .un, .un]) (sel := PyData.int) PyData.int (fun z => z = 0 ∨ z = 1) 1 (2 ^ 60) (items := rgL P) (w := w1) (w1 := w1) (m := m + 1) (by
        rw [hi w1 .un .un .un .un .un, rgL_eq])
      (fun s w m g hm => by
        obtain ⟨v, w2, e, h0, h1, g2⟩ := draw_ok g hm 2 (by decide) (by decide)
        exact ⟨[.st, .val (.int (c : Nat)), .un, .un, .val (.int s), .un, .un], v, w2, rfl, by simp [e, fnD, sSeq, sSet, sAsg, sRet, sRetN, sDrop, sIf, sFrz, sPass, sBad, sOwn2, sApp, sPutAt, sPutLf, sFor, eV, eC, eBin, eUn, eCall, eTup, eLst, eIf, eAnd, eOr, eNot, isB, tyAnd, tyOr, tyNot, lNil, lCons, aNl, aCs, vD, vS, aPk, pick, eFn, eTyIs, eTyNot, eChain, eSl, pNo, pSo, eOw1, eOw2, eAt, eCl, eLf, eLn, itSeq, itRg1, itRg2, itEn, tyN, opt, DL.setP, DL.setPs, frz1, List.length_cons, List.length_nil, List.cons_append, List.nil_append, List.getElem?_cons_zero, List.getElem?_cons_succ, List.set_cons_zero, List.set_cons_succ, List.replicate, RE.bind_ok, RE.bindS_ok, noEx_ok, Option.bind_some], by omega, g2⟩) g1 (by rw [rgL_len]; omega) (by rw [rgL_len]; unfold szL; omega)
    rw [rgL_len] at ln g2
    refine ⟨bs, w2, ?_, ⟨by omega, hb, by rw [ln, hP]⟩, g2.mono (by omega)⟩
    generalize hz : eComp [4] (itRg1 (eFn g_l_power (aCs (vD (eV 1)) aNl))) (.nm 4) tYesD (eFn g_l_draw (aCs (vS 0) (aCs (vD (eC (.int 2))) aNl))) = bd at e2
    simp only [g_l_worths, wo_split, wo0, hz]
    simp [e1, e2, h, gtD, tupleD, fnD, sSeq, sSet, sAsg, sRet, sRetN, sDrop, sIf, sFrz, sPass, sBad, sOwn2, sApp, sPutAt, sPutLf, sFor, eV, eC, eBin, eUn, eCall, eTup, eLst, eIf, eAnd, eOr, eNot, isB, tyAnd, tyOr, tyNot, lNil, lCons, aNl, aCs, vD, vS, aPk, pick, eFn, eTyIs, eTyNot, eChain, eSl, pNo, pSo, eOw1, eOw2, eAt, eCl, eLf, eLn, itSeq, itRg1, itRg2, itEn, tyN, opt, DL.setP, DL.setPs, frz1, List.length_cons, List.length_nil, List.cons_append, List.nil_append, List.getElem?_cons_zero, List.getElem?_cons_succ, List.set_cons_zero, List.set_cons_succ, List.replicate, RE.bind_ok, RE.bindS_ok, noEx_ok, Option.bind_some]
  · obtain ⟨k, w2, e2, k0, k1, g2⟩ := draw_ok g1 (by omega) 3 (by decide) (by decide)
    have ck : -16777216 ≤ 1 + k ∧ 1 + k ≤ 16777216 := by omega
    have hk : (1 + k).toNat ≤ 3 := by omega
    obtain ⟨FL, w3, e3, ln, hb, g3⟩ := comp_ex (vs := [5]) (fi := itRg1 (eBin addD (eC (.int 1)) (eFn g_l_draw (aCs (vS 0) (aCs (vD (eC (.int 3))) aNl))))) (p := .nm 5) (f := eFn g_l_draw (aCs (vS 0) (aCs (vD (eFn g_l_power (aCs (vD (eV 1)) aNl))) aNl))) (r := [.st, .val (.int (c : Nat)), .un, .un, .un, .un, .un]) (sel := PyData.int) PyData.int (fun _ => True) 1 (2 ^ 60) (items := rgL (1 + k).toNat) (w := w1) (w1 := w2) (m := m + 1 + 1) (by
        rw [← rgL_eq]
        simp [itRg1, addD, e2, ck, eFn, aCs, aNl, vD, vS, eV, eC, eBin, opt, RE.bind_ok, noEx_ok])
      (fun s w m g hm => by
        obtain ⟨v, w2, e, h0, h1, g2⟩ := draw_ok g hm (P : Nat) (by omega) (by omega)
        exact ⟨[.st, .val (.int (c : Nat)), .un, .un, .un, .val (.int s), .un], v, w2, rfl, by simp [e, ep, fnD, sSeq, sSet, sAsg, sRet, sRetN, sDrop, sIf, sFrz, sPass, sBad, sOwn2, sApp, sPutAt, sPutLf, sFor, eV, eC, eBin, eUn, eCall, eTup, eLst, eIf, eAnd, eOr, eNot, isB, tyAnd, tyOr, tyNot, lNil, lCons, aNl, aCs, vD, vS, aPk, pick, eFn, eTyIs, eTyNot, eChain, eSl, pNo, pSo, eOw1, eOw2, eAt, eCl, eLf, eLn, itSeq, itRg1, itRg2, itEn, tyN, opt, DL.setP, DL.setPs, frz1, List.length_cons, List.length_nil, List.cons_append, List.nil_append, List.getElem?_cons_zero, List.getElem?_cons_succ, List.set_cons_zero, List.set_cons_succ, List.replicate, RE.bind_ok, RE.bindS_ok, noEx_ok, Option.bind_some], trivial, g2⟩) g2 (by rw [rgL_len]; omega) (by rw [rgL_len]; unfold szL; omega)
    rw [rgL_len] at ln g3
    obtain ⟨G, s4, hG, lG, e4⟩ := wo_loop (c : Nat) FL (by omega) w3 .un .un P 0 [] .un (by simp; omega) (fun x hx => by cases hx)
    rw [List.map_nil] at e4
    rw [List.length_nil, Nat.zero_add] at lG
    refine ⟨G, w3, ?_, ⟨by omega, hG, by rw [lG, hP]⟩, g3.mono (by omega)⟩
    have h0 : wo0 [.st, .val (.int (c : Nat)), .un, .un, .un, .un, .un] w = .nx [.st, .val (.int (c : Nat)), .un, .un, .un, .un, .un] w1 := by
      simp [wo0, e1, h, gtD, fnD, sSeq, sSet, sAsg, sRet, sRetN, sDrop, sIf, sFrz, sPass, sBad, sOwn2, sApp, sPutAt, sPutLf, sFor, eV, eC, eBin, eUn, eCall, eTup, eLst, eIf, eAnd, eOr, eNot, isB, tyAnd, tyOr, tyNot, lNil, lCons, aNl, aCs, vD, vS, aPk, pick, eFn, eTyIs, eTyNot, eChain, eSl, pNo, pSo, eOw1, eOw2, eAt, eCl, eLf, eLn, itSeq, itRg1, itRg2, itEn, tyN, opt, DL.setP, DL.setPs, frz1, List.length_cons, List.length_nil, List.cons_append, List.nil_append, List.getElem?_cons_zero, List.getElem?_cons_succ, List.set_cons_zero, List.set_cons_succ, List.replicate, RE.bind_ok, RE.bindS_ok, noEx_ok, Option.bind_some]
    have h1 : wo1 [.st, .val (.int (c : Nat)), .un, .un, .un, .un, .un] w1 = .nx [.st, .val (.int (c : Nat)), .val (.list (FL.map .int)), .un, .un, .un, .un] w3 := by
      generalize FL.map PyData.int = FD at e3
      generalize hz : eComp [5] (itRg1 (eBin addD (eC (.int 1)) (eFn g_l_draw (aCs (vS 0) (aCs (vD (eC (.int 3))) aNl))))) (.nm 5) tYesD (eFn g_l_draw (aCs (vS 0) (aCs (vD (eFn g_l_power (aCs (vD (eV 1)) aNl))) aNl))) = bd at e3
      simp only [wo1, hz]
      simp [e3, fnD, sSeq, sSet, sAsg, sRet, sRetN, sDrop, sIf, sFrz, sPass, sBad, sOwn2, sApp, sPutAt, sPutLf, sFor, eV, eC, eBin, eUn, eCall, eTup, eLst, eIf, eAnd, eOr, eNot, isB, tyAnd, tyOr, tyNot, lNil, lCons, aNl, aCs, vD, vS, aPk, pick, eFn, eTyIs, eTyNot, eChain, eSl, pNo, pSo, eOw1, eOw2, eAt, eCl, eLf, eLn, itSeq, itRg1, itRg2, itEn, tyN, opt, DL.setP, DL.setPs, frz1, List.length_cons, List.length_nil, List.cons_append, List.nil_append, List.getElem?_cons_zero, List.getElem?_cons_succ, List.set_cons_zero, List.set_cons_succ, List.replicate, RE.bind_ok, RE.bindS_ok, noEx_ok, Option.bind_some]
    have h2 : wo2 [.st, .val (.int (c : Nat)), .val (.list (FL.map .int)), .un, .un, .un, .un] w3 = .nx [.st, .val (.int (c : Nat)), .val (.list (FL.map .int)), .own [], .un, .un, .un] w3 := by
      simp [wo2, sOwn, szL, fnD, sSeq, sSet, sAsg, sRet, sRetN, sDrop, sIf, sFrz, sPass, sBad, sOwn2, sApp, sPutAt, sPutLf, sFor, eV, eC, eBin, eUn, eCall, eTup, eLst, eIf, eAnd, eOr, eNot, isB, tyAnd, tyOr, tyNot, lNil, lCons, aNl, aCs, vD, vS, aPk, pick, eFn, eTyIs, eTyNot, eChain, eSl, pNo, pSo, eOw1, eOw2, eAt, eCl, eLf, eLn, itSeq, itRg1, itRg2, itEn, tyN, opt, DL.setP, DL.setPs, frz1, List.length_cons, List.length_nil, List.cons_append, List.nil_append, List.getElem?_cons_zero, List.getElem?_cons_succ, List.set_cons_zero, List.set_cons_succ, List.replicate, RE.bind_ok, RE.bindS_ok, noEx_ok, Option.bind_some]
    have h3 : wo3 [.st, .val (.int (c : Nat)), .val (.list (FL.map .int)), .own [], .un, .un, .un] w3 = .nx [.st, .val (.int (c : Nat)), .val (.list (FL.map .int)), .own (G.map .int), s4, .un, .un] w3 := by
      have hz := hi w3 (.val (.list (FL.map .int))) (.own []) .un .un .un
      show ((itRg1 (eFn g_l_power (aCs (vD (eV 1)) aNl)) [.st, .val (.int (c : Nat)), .val (.list (FL.map .int)), .own [], .un, .un, .un] w3).bindS _) = _
      rw [hz]
      exact e4
    have hb : (sSeq wo0 (sSeq wo1 (sSeq wo2 (sSeq wo3 wo4)))) [.st, .val (.int (c : Nat)), .un, .un, .un, .un, .un] w = .rt (rws G) w3 := by
      rw [seq_nx h0, seq_nx h1, seq_nx h2, seq_nx h3]
      show _ = RS.rt (PyData.tuple (G.map .int)) w3
      generalize G.map PyData.int = GD
      simp [wo4, tupleD, szL, fnD, sSeq, sSet, sAsg, sRet, sRetN, sDrop, sIf, sFrz, sPass, sBad, sOwn2, sApp, sPutAt, sPutLf, sFor, eV, eC, eBin, eUn, eCall, eTup, eLst, eIf, eAnd, eOr, eNot, isB, tyAnd, tyOr, tyNot, lNil, lCons, aNl, aCs, vD, vS, aPk, pick, eFn, eTyIs, eTyNot, eChain, eSl, pNo, pSo, eOw1, eOw2, eAt, eCl, eLf, eLn, itSeq, itRg1, itRg2, itEn, tyN, opt, DL.setP, DL.setPs, frz1, List.length_cons, List.length_nil, List.cons_append, List.nil_append, List.getElem?_cons_zero, List.getElem?_cons_succ, List.set_cons_zero, List.set_cons_succ, List.replicate, RE.bind_ok, RE.bindS_ok, noEx_ok, Option.bind_some]
    simp [g_l_worths, wo_split, fnD, List.replicate, hb]
/-! ## refused -/
theorem refused_eq {c : Nat} {T : List Int} (t : Tb c T) (hno : ¬ ((0 : Int) ∈ T ∧ (1 : Int) ∈ T)) {ss : List (Int × Int)} (hs : ∀ p ∈ ss, (0 ≤ p.1 ∧ p.1 ≤ ((c : Nat) : Int) - 1) ∧ (0 ≤ p.2 ∧ p.2 ≤ 1)) (ho : ss.Pairwise lt2) (w : DS) : g_l_refused [.val (.int (c : Nat)), .val (sgs ss), .val (rws T)] w = .ok (.bool true) w := by
  have eq := qof_eq t hs ho w
  rw [if_neg hno] at eq
  have le := t.le
  have lk := like_eq (rws_ok2 (ys := T) (fun y hy => by have := t.v y hy; omega) (by omega)) (by decide) (by decide) w
  have er : lkRun (rws T) 3 2 [.val (.int (c : Nat)), .val (sgs ss), .val (rws T), .val .none, .un] w = .rt (.bool true) w := by
    unfold lkRun
    show (match likeG [.val (rws T), .val (rws T)] w with
      | .ok b w1 => RS.rt b w1
      | _ => .bad) = _
    rw [lk]
  have ef : eFnX g_p_question_of (aCs (vD (eV 0)) (aCs (vD (eV 1)) (aCs (vD (eV 2)) aNl))) [.val (.int (c : Nat)), .val (sgs ss), .val (rws T), .val .none, .un] w = .ex "BadParameter" (rws T) w := by
    generalize rws T = V at eq
    generalize sgs ss = S at eq
    simp [eFnX, eq, fnD, sSeq, sSet, sAsg, sRet, sRetN, sDrop, sIf, sFrz, sPass, sBad, sOwn2, sApp, sPutAt, sPutLf, sFor, eV, eC, eBin, eUn, eCall, eTup, eLst, eIf, eAnd, eOr, eNot, isB, tyAnd, tyOr, tyNot, lNil, lCons, aNl, aCs, vD, vS, aPk, pick, eFn, eTyIs, eTyNot, eChain, eSl, pNo, pSo, eOw1, eOw2, eAt, eCl, eLf, eLn, itSeq, itRg1, itRg2, itEn, tyN, opt, DL.setP, DL.setPs, frz1, List.length_cons, List.length_nil, List.cons_append, List.nil_append, List.getElem?_cons_zero, List.getElem?_cons_succ, List.set_cons_zero, List.set_cons_succ, List.replicate, RE.bind_ok, RE.bindS_ok, noEx_ok, Option.bind_some]
  have e1 : rf1 [.val (.int (c : Nat)), .val (sgs ss), .val (rws T), .val .none, .un] w = .rt (.bool true) w := by
    unfold rf1 sTryLk
    rw [ef]
    show (if (("BadParameter" : Str) ∈ T_ ∧ ("BadParameter" : Str) = "BadParameter") ∧ 4 < 5 ∧ 4 ≠ 3 ∧ 4 ≠ 2 then lkRun (rws T) 3 2 [.val (.int (c : Nat)), .val (sgs ss), .val (rws T), .val .none, .un] w else .bad) = _
    rw [if_pos ⟨⟨by decide +kernel, rfl⟩, by decide, by decide, by decide⟩]
    exact er
  generalize rws T = V at e1
  generalize sgs ss = S at e1
  have e0 : rf0 [.val (.int (c : Nat)), .val S, .val V, .un, .un] w = .nx [.val (.int (c : Nat)), .val S, .val V, .val .none, .un] w := by
    simp [rf0, fnD, sSeq, sSet, sAsg, sRet, sRetN, sDrop, sIf, sFrz, sPass, sBad, sOwn2, sApp, sPutAt, sPutLf, sFor, eV, eC, eBin, eUn, eCall, eTup, eLst, eIf, eAnd, eOr, eNot, isB, tyAnd, tyOr, tyNot, lNil, lCons, aNl, aCs, vD, vS, aPk, pick, eFn, eTyIs, eTyNot, eChain, eSl, pNo, pSo, eOw1, eOw2, eAt, eCl, eLf, eLn, itSeq, itRg1, itRg2, itEn, tyN, opt, DL.setP, DL.setPs, frz1, List.length_cons, List.length_nil, List.cons_append, List.nil_append, List.getElem?_cons_zero, List.getElem?_cons_succ, List.set_cons_zero, List.set_cons_succ, List.replicate, RE.bind_ok, RE.bindS_ok, noEx_ok, Option.bind_some]
  have hb : (sSeq rf0 (sSeq rf1 rf2)) [.val (.int (c : Nat)), .val S, .val V, .un, .un] w = .rt (.bool true) w := by
    rw [seq_nx e0]
    unfold sSeq
    rw [e1]
  simp [g_l_refused, rf_split, fnD, List.replicate, hb]
end K03

namespace K03
open L2 PySem PySem.Spec PyProof.Rows DL
/-! ## one value or both -/
theorem uniq_const {v : Int} : ∀ l : List Int, (∀ x ∈ l, x = v) → l ≠ [] → uniq l = [v]
  | [], _, h => absurd rfl h
  | x :: r, h, _ => by
    have hx := h x (List.mem_cons_self ..)
    subst hx
    by_cases hr : r = []
    · subst hr
      rfl
    · have ih := uniq_const r (fun y hy => h y (List.mem_cons_of_mem _ hy)) hr
      show (if x ∈ uniq r then uniq r else x :: uniq r) = [x]
      rw [ih, if_pos (List.mem_singleton.mpr rfl)]
theorem one_value {c : Nat} {T : List Int} (t : Tb c T) : lenSetG (rws T) = some (.int ((uniq T).length : Nat)) ∧ ((((uniq T).length : Nat) : Int) = 1 ↔ ¬ ((0 : Int) ∈ T ∧ (1 : Int) ∈ T)) := by
  have le := t.le
  have p0 : 0 < 2 ^ c := Nat.pow_pos (by decide)
  refine ⟨?_, ?_⟩
  · show ((toInts (T.map PyData.int)).bind fun ns => if ns.length < 1000 then some (PyData.int ((uniq ns).length : Nat)) else none) = _
    rw [toInts_map, Option.bind_some, if_pos (by omega)]
  · constructor
    · intro h ⟨h0, h1⟩
      have hl : (uniq T).length = 1 := by omega
      obtain ⟨a, ha⟩ := List.length_eq_one_iff.mp hl
      have m0 := (uniq_mem T 0).mpr h0
      have m1 := (uniq_mem T 1).mpr h1
      rw [ha] at m0 m1
      have e0 := List.mem_singleton.mp m0
      have e1 := List.mem_singleton.mp m1
      omega
    · intro h
      have ne : T ≠ [] := fun e => by
        have := t.l
        rw [e] at this
        simp at this
        omega
      by_cases h0 : (0 : Int) ∈ T
      · rw [uniq_const (v := 0) T (fun x hx => by
          rcases t.v x hx with z | z
          · exact z
          · subst z; exact absurd ⟨h0, hx⟩ h) ne]
        rfl
      · rw [uniq_const (v := 1) T (fun x hx => by
          rcases t.v x hx with z | z
          · subst z; exact absurd hx h0
          · exact z) ne]
        rfl
/-! ## a table's question -/
noncomputable abbrev trC : EM := eComp [7] (itSeq (eFn g_p_all_signs (aCs (vD (eV 1)) aNl))) (.nm 7) (isB (eBin eqD (eFn g_l_draw (aCs (vS 0) (aCs (vD (eC (.int 2))) aNl))) (eC (.int 0)))) (eV 7)
theorem trC_eq {c : Nat} (hc : 1 ≤ c ∧ c ≤ 8) (V : PyData) {m : Nat} {w : DS} (g : Gd m w) (hm : m + 100 < 2 ^ 60) : ∃ (sub : List (Int × Int)) (w2 : DS), sub.Sublist (allS 0 c) ∧ trC [.st, .val (.int (c : Nat)), .val V, .un, .un, .un, .un, .un, .un, .un] w = .ok (.list (sub.map sg)) w2 ∧ Gd (m + 16) w2 := by
  have lA : (allS 0 c).length ≤ 16 := by rw [allS_len]; omega
  obtain ⟨sub, w2, hs, e, g2⟩ := cmpL_draw (p := .nm 7) (t := isB (eBin eqD (eFn g_l_draw (aCs (vS 0) (aCs (vD (eC (.int 2))) aNl))) (eC (.int 0)))) (f := eV 7) (r := [.st, .val (.int (c : Nat)), .val V, .un, .un, .un, .un, .un, .un, .un]) (sel := sg) (fun p w m g hm => by
    obtain ⟨v, w2, ed, v0, v1, g2⟩ := draw_ok g hm 2 (by decide) (by decide)
    refine ⟨[.st, .val (.int (c : Nat)), .val V, .un, .un, .un, .un, .val (sg p), .un, .un], decide (v = 0), w2, rfl, ?_, g2, fun w => by simp [fnD, sSeq, sSet, sAsg, sRet, sRetN, sDrop, sIf, sFrz, sPass, sBad, sOwn2, sApp, sPutAt, sPutLf, sFor, eV, eC, eBin, eUn, eCall, eTup, eLst, eIf, eAnd, eOr, eNot, isB, tyAnd, tyOr, tyNot, lNil, lCons, aNl, aCs, vD, vS, aPk, pick, eFn, eTyIs, eTyNot, eChain, eSl, pNo, pSo, eOw1, eOw2, eAt, eCl, eLf, eLn, itSeq, itRg1, itRg2, itEn, tyN, opt, DL.setP, DL.setPs, frz1, List.length_cons, List.length_nil, List.cons_append, List.nil_append, List.getElem?_cons_zero, List.getElem?_cons_succ, List.set_cons_zero, List.set_cons_succ, List.replicate, RE.bind_ok, RE.bindS_ok, noEx_ok, Option.bind_some]⟩
    have e := eqI v 0
    simp [ed, e, fnD, sSeq, sSet, sAsg, sRet, sRetN, sDrop, sIf, sFrz, sPass, sBad, sOwn2, sApp, sPutAt, sPutLf, sFor, eV, eC, eBin, eUn, eCall, eTup, eLst, eIf, eAnd, eOr, eNot, isB, tyAnd, tyOr, tyNot, lNil, lCons, aNl, aCs, vD, vS, aPk, pick, eFn, eTyIs, eTyNot, eChain, eSl, pNo, pSo, eOw1, eOw2, eAt, eCl, eLf, eLn, itSeq, itRg1, itRg2, itEn, tyN, opt, DL.setP, DL.setPs, frz1, List.length_cons, List.length_nil, List.cons_append, List.nil_append, List.getElem?_cons_zero, List.getElem?_cons_succ, List.set_cons_zero, List.set_cons_succ, List.replicate, RE.bind_ok, RE.bindS_ok, noEx_ok, Option.bind_some]) (allS 0 c) m w g (by omega)
  refine ⟨sub, w2, hs, ?_, g2.mono (by omega)⟩
  have l : (sub.map sg).length ≤ szL := by
    rw [List.length_map]
    have := hs.length_le
    unfold szL
    omega
  have ea := all6 hc w
  have ei : itSeq (eFn g_p_all_signs (aCs (vD (eV 1)) aNl)) [.st, .val (.int (c : Nat)), .val V, .un, .un, .un, .un, .un, .un, .un] w = .ok ((allS 0 c).map sg) w := by
    generalize hL : (allS 0 c).map sg = L at ea
    have ea2 : g_p_all_signs [.val (.int (c : Nat))] w = .ok (.tuple L) w := by rw [← hL]; exact all6 hc w
    simp [itSeq, eFn, aCs, aNl, vD, eV, RE.bind_ok, noEx_ok, ea2]
  show ((itSeq (eFn g_p_all_signs (aCs (vD (eV 1)) aNl)) [.st, .val (.int (c : Nat)), .val V, .un, .un, .un, .un, .un, .un, .un] w).bind _) = _
  rw [ei]
  show (match cmpL (.nm 7) (isB (eBin eqD (eFn g_l_draw (aCs (vS 0) (aCs (vD (eC (.int 2))) aNl))) (eC (.int 0)))) (eV 7) [.st, .val (.int (c : Nat)), .val V, .un, .un, .un, .un, .un, .un, .un] ((allS 0 c).map sg) w with
    | some (ys, w2) => if ys.length ≤ szL then RE.ok (PyData.list ys) w2 else RE.bad
    | none => RE.bad) = _
  rw [e]
  exact if_pos l
theorem lot_comp {T : List Int} (hl : T.length ≤ 1000) (b : Int) (s1 s3 s4 : SV) (w : DS) : eComp [8, 9] (itEn (eV 2)) (.tp [(.nm 8), (.nm 9)]) (isB (eBin eqD (eV 9) (eC (.int b)))) (eV 8) [.st, s1, .val (rws T), s3, s4, .un, .un, .un, .un, .un] w = .ok (.list ((rowsW b T).map .int)) w :=
  rows_comp (vs := [8, 9]) (i := 8) (j := 9) (fi := itEn (eV 2)) b hl w (by
    show RE.ok (enD 0 (T.map PyData.int)) w = _
    rw [enD_I]) fun p => ⟨[.st, noOwn s1, .val (rws T), noOwn s3, noOwn s4, .un, .un, .un, .val (.int (p.1 : Nat)), .val (.int p.2)], rfl, by
      have e := eqI p.2 b
      simp [e, fnD, sSeq, sSet, sAsg, sRet, sRetN, sDrop, sIf, sFrz, sPass, sBad, sOwn2, sApp, sPutAt, sPutLf, sFor, eV, eC, eBin, eUn, eCall, eTup, eLst, eIf, eAnd, eOr, eNot, isB, tyAnd, tyOr, tyNot, lNil, lCons, aNl, aCs, vD, vS, aPk, pick, eFn, eTyIs, eTyNot, eChain, eSl, pNo, pSo, eOw1, eOw2, eAt, eCl, eLf, eLn, itSeq, itRg1, itRg2, itEn, tyN, opt, DL.setP, DL.setPs, frz1, List.length_cons, List.length_nil, List.cons_append, List.nil_append, List.getElem?_cons_zero, List.getElem?_cons_succ, List.set_cons_zero, List.set_cons_succ, List.replicate, RE.bind_ok, RE.bindS_ok, noEx_ok, Option.bind_some], by simp [fnD, sSeq, sSet, sAsg, sRet, sRetN, sDrop, sIf, sFrz, sPass, sBad, sOwn2, sApp, sPutAt, sPutLf, sFor, eV, eC, eBin, eUn, eCall, eTup, eLst, eIf, eAnd, eOr, eNot, isB, tyAnd, tyOr, tyNot, lNil, lCons, aNl, aCs, vD, vS, aPk, pick, eFn, eTyIs, eTyNot, eChain, eSl, pNo, pSo, eOw1, eOw2, eAt, eCl, eLf, eLn, itSeq, itRg1, itRg2, itEn, tyN, opt, DL.setP, DL.setPs, frz1, List.length_cons, List.length_nil, List.cons_append, List.nil_append, List.getElem?_cons_zero, List.getElem?_cons_succ, List.set_cons_zero, List.set_cons_succ, List.replicate, RE.bind_ok, RE.bindS_ok, noEx_ok, Option.bind_some]⟩
theorem right_v (C : Int) (V : PyData) (E : List PyData) (Nn Ff : List PyData) (AS RS' : PyData) (QA QR : PyData) (u : Int) (one b : Bool) (s6 : SV) (w w1 : DS)
    (e0 : trC [.st, .val (.int C), .val V, .un, .un, .un, .un, .un, .un, .un] w = .ok (.list E) w1) (e1 : lenSetG V = some (.int u)) (e2 : eqD (.int u) (.int 1) = some (.bool one))
    (h1 : one = true → g_l_refused [.val (.int C), .val (.tuple E), .val V] w1 = .ok (.bool true) w1)
    (h2 : one = false → eComp [8, 9] (itEn (eV 2)) (.tp [(.nm 8), (.nm 9)]) (isB (eBin eqD (eV 9) (eC (.int 1)))) (eV 8) [.st, .val (.int C), .val V, .val (.tuple E), .un, .un, .un, .un, .un, .un] w1 = .ok (.list Nn) w1
      ∧ eComp [8, 9] (itEn (eV 2)) (.tp [(.nm 8), (.nm 9)]) (isB (eBin eqD (eV 9) (eC (.int 0)))) (eV 8) [.st, .val (.int C), .val V, .val (.tuple E), .val (.tuple Nn), .un, .un, .un, .un, .un] w1 = .ok (.list Ff) w1
      ∧ g_p_all_signs [.val (.int C)] w1 = .ok AS w1 ∧ g_p_rising_signs [.val (.int C)] w1 = .ok RS' w1
      ∧ forL (.nm 6) trB [.tuple E, AS, RS'] [.st, .val (.int C), .val V, .val (.tuple E), .val (.tuple Nn), .val (.tuple Ff), .un, .un, .un, .un] w1 = .nx [.st, .val (.int C), .val V, .val (.tuple E), .val (.tuple Nn), .val (.tuple Ff), s6, .un, .un, .un] w1
      ∧ g_p_question_of [.val (.int C), .val AS, .val V] w1 = .ok QA w1 ∧ g_p_can_be [.val QA] w1 = .ok (.bool true) w1
      ∧ g_p_question_of [.val (.int C), .val RS', .val V] w1 = .ok QR w1 ∧ g_p_can_be [.val QR] w1 = .ok (.bool b) w1 ∧ g_l_rises [.val V] w1 = .ok (.bool b) w1 ∧ likeG [.val (.bool b), .val (.bool b)] w1 = .ok (.bool true) w1) :
    g_l_right [.st, .val (.int C), .val V] w = .ok (.bool true) w1 := by
  have l0 : tr0 = sSet 3 (eCall tupleD (lCons trC lNil)) := rfl
  have g0 : tr0 [.st, .val (.int C), .val V, .un, .un, .un, .un, .un, .un, .un] w = .nx [.st, .val (.int C), .val V, .val (.tuple E), .un, .un, .un, .un, .un, .un] w1 := by
    generalize trC = bd at e0 l0
    rw [l0]
    simp [e0, tupleD, fnD, sSeq, sSet, sAsg, sRet, sRetN, sDrop, sIf, sFrz, sPass, sBad, sOwn2, sApp, sPutAt, sPutLf, sFor, eV, eC, eBin, eUn, eCall, eTup, eLst, eIf, eAnd, eOr, eNot, isB, tyAnd, tyOr, tyNot, lNil, lCons, aNl, aCs, vD, vS, aPk, pick, eFn, eTyIs, eTyNot, eChain, eSl, pNo, pSo, eOw1, eOw2, eAt, eCl, eLf, eLn, itSeq, itRg1, itRg2, itEn, tyN, opt, DL.setP, DL.setPs, frz1, List.length_cons, List.length_nil, List.cons_append, List.nil_append, List.getElem?_cons_zero, List.getElem?_cons_succ, List.set_cons_zero, List.set_cons_succ, List.replicate, RE.bind_ok, RE.bindS_ok, noEx_ok, Option.bind_some]
  have hb : (sSeq tr0 (sSeq tr1 (sSeq tr2 (sSeq tr3 (sSeq tr4 (sSeq tr5 tr6)))))) [.st, .val (.int C), .val V, .un, .un, .un, .un, .un, .un, .un] w = .rt (.bool true) w1 := by
    rw [seq_nx g0]
    cases one with
    | true =>
      have f := h1 rfl
      have g1 : tr1 [.st, .val (.int C), .val V, .val (.tuple E), .un, .un, .un, .un, .un, .un] w1 = .rt (.bool true) w1 := by
        simp [tr1, e1, e2, f, fnD, sSeq, sSet, sAsg, sRet, sRetN, sDrop, sIf, sFrz, sPass, sBad, sOwn2, sApp, sPutAt, sPutLf, sFor, eV, eC, eBin, eUn, eCall, eTup, eLst, eIf, eAnd, eOr, eNot, isB, tyAnd, tyOr, tyNot, lNil, lCons, aNl, aCs, vD, vS, aPk, pick, eFn, eTyIs, eTyNot, eChain, eSl, pNo, pSo, eOw1, eOw2, eAt, eCl, eLf, eLn, itSeq, itRg1, itRg2, itEn, tyN, opt, DL.setP, DL.setPs, frz1, List.length_cons, List.length_nil, List.cons_append, List.nil_append, List.getElem?_cons_zero, List.getElem?_cons_succ, List.set_cons_zero, List.set_cons_succ, List.replicate, RE.bind_ok, RE.bindS_ok, noEx_ok, Option.bind_some]
      unfold sSeq
      rw [g1]
    | false =>
      obtain ⟨a1, a2, a3, a4, a5, a6, a7, a8, a9, a10, a11⟩ := h2 rfl
      have g1 : tr1 [.st, .val (.int C), .val V, .val (.tuple E), .un, .un, .un, .un, .un, .un] w1 = .nx [.st, .val (.int C), .val V, .val (.tuple E), .un, .un, .un, .un, .un, .un] w1 := by
        simp [tr1, e1, e2, fnD, sSeq, sSet, sAsg, sRet, sRetN, sDrop, sIf, sFrz, sPass, sBad, sOwn2, sApp, sPutAt, sPutLf, sFor, eV, eC, eBin, eUn, eCall, eTup, eLst, eIf, eAnd, eOr, eNot, isB, tyAnd, tyOr, tyNot, lNil, lCons, aNl, aCs, vD, vS, aPk, pick, eFn, eTyIs, eTyNot, eChain, eSl, pNo, pSo, eOw1, eOw2, eAt, eCl, eLf, eLn, itSeq, itRg1, itRg2, itEn, tyN, opt, DL.setP, DL.setPs, frz1, List.length_cons, List.length_nil, List.cons_append, List.nil_append, List.getElem?_cons_zero, List.getElem?_cons_succ, List.set_cons_zero, List.set_cons_succ, List.replicate, RE.bind_ok, RE.bindS_ok, noEx_ok, Option.bind_some]
      have g2 : tr2 [.st, .val (.int C), .val V, .val (.tuple E), .un, .un, .un, .un, .un, .un] w1 = .nx [.st, .val (.int C), .val V, .val (.tuple E), .val (.tuple Nn), .un, .un, .un, .un, .un] w1 := by
        generalize hz : eComp [8, 9] (itEn (eV 2)) (.tp [(.nm 8), (.nm 9)]) (isB (eBin eqD (eV 9) (eC (.int 1)))) (eV 8) = bd at a1
        simp only [tr2, hz]
        simp [a1, tupleD, fnD, sSeq, sSet, sAsg, sRet, sRetN, sDrop, sIf, sFrz, sPass, sBad, sOwn2, sApp, sPutAt, sPutLf, sFor, eV, eC, eBin, eUn, eCall, eTup, eLst, eIf, eAnd, eOr, eNot, isB, tyAnd, tyOr, tyNot, lNil, lCons, aNl, aCs, vD, vS, aPk, pick, eFn, eTyIs, eTyNot, eChain, eSl, pNo, pSo, eOw1, eOw2, eAt, eCl, eLf, eLn, itSeq, itRg1, itRg2, itEn, tyN, opt, DL.setP, DL.setPs, frz1, List.length_cons, List.length_nil, List.cons_append, List.nil_append, List.getElem?_cons_zero, List.getElem?_cons_succ, List.set_cons_zero, List.set_cons_succ, List.replicate, RE.bind_ok, RE.bindS_ok, noEx_ok, Option.bind_some]
      have g3 : tr3 [.st, .val (.int C), .val V, .val (.tuple E), .val (.tuple Nn), .un, .un, .un, .un, .un] w1 = .nx [.st, .val (.int C), .val V, .val (.tuple E), .val (.tuple Nn), .val (.tuple Ff), .un, .un, .un, .un] w1 := by
        generalize hz : eComp [8, 9] (itEn (eV 2)) (.tp [(.nm 8), (.nm 9)]) (isB (eBin eqD (eV 9) (eC (.int 0)))) (eV 8) = bd at a2
        simp only [tr3, hz]
        simp [a2, tupleD, fnD, sSeq, sSet, sAsg, sRet, sRetN, sDrop, sIf, sFrz, sPass, sBad, sOwn2, sApp, sPutAt, sPutLf, sFor, eV, eC, eBin, eUn, eCall, eTup, eLst, eIf, eAnd, eOr, eNot, isB, tyAnd, tyOr, tyNot, lNil, lCons, aNl, aCs, vD, vS, aPk, pick, eFn, eTyIs, eTyNot, eChain, eSl, pNo, pSo, eOw1, eOw2, eAt, eCl, eLf, eLn, itSeq, itRg1, itRg2, itEn, tyN, opt, DL.setP, DL.setPs, frz1, List.length_cons, List.length_nil, List.cons_append, List.nil_append, List.getElem?_cons_zero, List.getElem?_cons_succ, List.set_cons_zero, List.set_cons_succ, List.replicate, RE.bind_ok, RE.bindS_ok, noEx_ok, Option.bind_some]
      have g4 : tr4 [.st, .val (.int C), .val V, .val (.tuple E), .val (.tuple Nn), .val (.tuple Ff), .un, .un, .un, .un] w1 = .nx [.st, .val (.int C), .val V, .val (.tuple E), .val (.tuple Nn), .val (.tuple Ff), s6, .un, .un, .un] w1 := by
        generalize hz : trB = bd at a5
        simp only [tr4, hz]
        simp [a3, a4, a5, szL, fnD, sSeq, sSet, sAsg, sRet, sRetN, sDrop, sIf, sFrz, sPass, sBad, sOwn2, sApp, sPutAt, sPutLf, sFor, eV, eC, eBin, eUn, eCall, eTup, eLst, eIf, eAnd, eOr, eNot, isB, tyAnd, tyOr, tyNot, lNil, lCons, aNl, aCs, vD, vS, aPk, pick, eFn, eTyIs, eTyNot, eChain, eSl, pNo, pSo, eOw1, eOw2, eAt, eCl, eLf, eLn, itSeq, itRg1, itRg2, itEn, tyN, opt, DL.setP, DL.setPs, frz1, List.length_cons, List.length_nil, List.cons_append, List.nil_append, List.getElem?_cons_zero, List.getElem?_cons_succ, List.set_cons_zero, List.set_cons_succ, List.replicate, RE.bind_ok, RE.bindS_ok, noEx_ok, Option.bind_some]
      have i : isNotD (.bool true) (.bool true) = some (.bool false) := rfl
      have g5 : tr5 [.st, .val (.int C), .val V, .val (.tuple E), .val (.tuple Nn), .val (.tuple Ff), s6, .un, .un, .un] w1 = .nx [.st, .val (.int C), .val V, .val (.tuple E), .val (.tuple Nn), .val (.tuple Ff), s6, .un, .un, .un] w1 := by
        simp [tr5, a3, a6, a7, i, fnD, sSeq, sSet, sAsg, sRet, sRetN, sDrop, sIf, sFrz, sPass, sBad, sOwn2, sApp, sPutAt, sPutLf, sFor, eV, eC, eBin, eUn, eCall, eTup, eLst, eIf, eAnd, eOr, eNot, isB, tyAnd, tyOr, tyNot, lNil, lCons, aNl, aCs, vD, vS, aPk, pick, eFn, eTyIs, eTyNot, eChain, eSl, pNo, pSo, eOw1, eOw2, eAt, eCl, eLf, eLn, itSeq, itRg1, itRg2, itEn, tyN, opt, DL.setP, DL.setPs, frz1, List.length_cons, List.length_nil, List.cons_append, List.nil_append, List.getElem?_cons_zero, List.getElem?_cons_succ, List.set_cons_zero, List.set_cons_succ, List.replicate, RE.bind_ok, RE.bindS_ok, noEx_ok, Option.bind_some]
      rw [seq_nx g1, seq_nx g2, seq_nx g3, seq_nx g4, seq_nx g5]
      simp [tr6, a4, a8, a9, a10, a11, fnD, sSeq, sSet, sAsg, sRet, sRetN, sDrop, sIf, sFrz, sPass, sBad, sOwn2, sApp, sPutAt, sPutLf, sFor, eV, eC, eBin, eUn, eCall, eTup, eLst, eIf, eAnd, eOr, eNot, isB, tyAnd, tyOr, tyNot, lNil, lCons, aNl, aCs, vD, vS, aPk, pick, eFn, eTyIs, eTyNot, eChain, eSl, pNo, pSo, eOw1, eOw2, eAt, eCl, eLf, eLn, itSeq, itRg1, itRg2, itEn, tyN, opt, DL.setP, DL.setPs, frz1, List.length_cons, List.length_nil, List.cons_append, List.nil_append, List.getElem?_cons_zero, List.getElem?_cons_succ, List.set_cons_zero, List.set_cons_succ, List.replicate, RE.bind_ok, RE.bindS_ok, noEx_ok, Option.bind_some]
  simp [g_l_right, tr_split, fnD, List.replicate, hb]
theorem trB_eq {c : Nat} {T : List Int} (t : Tb c T) (h0 : (0 : Int) ∈ T) (h1 : (1 : Int) ∈ T) {ss : List (Int × Int)} (hs : ∀ p ∈ ss, (0 ≤ p.1 ∧ p.1 ≤ ((c : Nat) : Int) - 1) ∧ (0 ≤ p.2 ∧ p.2 ≤ 1)) (ho : ss.Pairwise lt2) (hl : ss.length ≤ 100) (s3 : SV) (w : DS) :
    trB [.st, .val (.int (c : Nat)), .val (rws T), s3, .val (rws (rowsW 1 T)), .val (rws (rowsW 0 T)), .val (sgs ss), .un, .un, .un] w = .nx [.st, .val (.int (c : Nat)), .val (rws T), s3, .val (rws (rowsW 1 T)), .val (rws (rowsW 0 T)), .val (sgs ss), .un, .un, .un] w := by
  have e := qof_eq t hs ho w
  rw [if_pos ⟨h0, h1⟩] at e
  have le := t.le
  have cb := t.cb
  have k := like_eq (qd_ok2 (n := (c : Nat)) (ss := ss) (ys := rowsW 1 T) (ns := rowsW 0 T) (by omega) (fun p hp => by have := hs p hp; omega) hl (rowsW_65 t 1) (by have := rowsW_len 1 T; omega) (rowsW_65 t 0) (by have := rowsW_len 0 T; omega)) (by decide) (by decide) w
  have r : qd (c : Nat) ss (rowsW 1 T) (rowsW 0 T) = .tuple [.int (c : Nat), sgs ss, rws (rowsW 1 T), rws (rowsW 0 T)] := rfl
  rw [r] at e k
  generalize rws (rowsW 1 T) = Y at e k
  generalize rws (rowsW 0 T) = N at e k
  generalize rws T = V at e
  generalize sgs ss = S at e k
  have s4 : (4 : Nat) ≤ szL := by decide
  simp [trB, e, k, s4, fnD, sSeq, sSet, sAsg, sRet, sRetN, sDrop, sIf, sFrz, sPass, sBad, sOwn2, sApp, sPutAt, sPutLf, sFor, eV, eC, eBin, eUn, eCall, eTup, eLst, eIf, eAnd, eOr, eNot, isB, tyAnd, tyOr, tyNot, lNil, lCons, aNl, aCs, vD, vS, aPk, pick, eFn, eTyIs, eTyNot, eChain, eSl, pNo, pSo, eOw1, eOw2, eAt, eCl, eLf, eLn, itSeq, itRg1, itRg2, itEn, tyN, opt, DL.setP, DL.setPs, frz1, List.length_cons, List.length_nil, List.cons_append, List.nil_append, List.getElem?_cons_zero, List.getElem?_cons_succ, List.set_cons_zero, List.set_cons_succ, List.replicate, RE.bind_ok, RE.bindS_ok, noEx_ok, Option.bind_some]
theorem risS_ok {c : Nat} : ∀ p ∈ risS (c : Nat), (0 ≤ p.1 ∧ p.1 ≤ ((c : Nat) : Int) - 1) ∧ (0 ≤ p.2 ∧ p.2 ≤ 1) := fun p hp => by
  have := risS_mem hp
  omega
theorem risS_len (c : Nat) : (risS (c : Nat)).length = c := by
  unfold risS
  rw [List.length_map, rgL_len]
  rfl
theorem right_eq {c : Nat} {T : List Int} (t : Tb c T) {m : Nat} {w : DS} (g : Gd m w) (hm : m + 200 < 2 ^ 60) : ∃ w2, g_l_right [.st, .val (.int (c : Nat)), .val (rws T)] w = .ok (.bool true) w2 ∧ Gd (m + 16) w2 := by
  have cb := t.cb
  have le := t.le
  obtain ⟨sub, w1, hsub, e0, g1⟩ := trC_eq cb (rws T) g (by omega)
  obtain ⟨e1, hone⟩ := one_value t
  have lA : (allS 0 c).length ≤ 16 := by rw [allS_len]; omega
  have hA : ∀ p ∈ allS 0 c, (0 ≤ p.1 ∧ p.1 ≤ ((c : Nat) : Int) - 1) ∧ (0 ≤ p.2 ∧ p.2 ≤ 1) := fun p hp => by
    have := (allS_mem _ _ _).mp hp
    omega
  have hS : ∀ p ∈ sub, (0 ≤ p.1 ∧ p.1 ≤ ((c : Nat) : Int) - 1) ∧ (0 ≤ p.2 ∧ p.2 ≤ 1) := fun p hp => hA p (hsub.subset hp)
  have oS := (allS_ord c 0).sublist hsub
  have lS := hsub.length_le
  by_cases hb : (0 : Int) ∈ T ∧ (1 : Int) ∈ T
  · obtain ⟨r2, e5, s6, rfl⟩ := forL_same (p := .nm 6) (body := trB) (sel := sgs) (w := w1) (fun r => ∃ s6, r = [.st, .val (.int (c : Nat)), .val (rws T), .val (sgs sub), .val (rws (rowsW 1 T)), .val (rws (rowsW 0 T)), s6, .un, .un, .un]) [sub, allS 0 c, risS (c : Nat)] (fun ss hss r hr => by
      obtain ⟨s6, rfl⟩ := hr
      refine ⟨[.st, .val (.int (c : Nat)), .val (rws T), .val (sgs sub), .val (rws (rowsW 1 T)), .val (rws (rowsW 0 T)), .val (sgs ss), .un, .un, .un], [.st, .val (.int (c : Nat)), .val (rws T), .val (sgs sub), .val (rws (rowsW 1 T)), .val (rws (rowsW 0 T)), .val (sgs ss), .un, .un, .un], rfl, ?_, .val (sgs ss), rfl⟩
      simp only [List.mem_cons, List.not_mem_nil, or_false] at hss
      rcases hss with rfl | rfl | rfl
      · exact trB_eq t hb.1 hb.2 hS oS (by omega) _ w1
      · exact trB_eq t hb.1 hb.2 hA (allS_ord c 0) (by omega) _ w1
      · exact trB_eq t hb.1 hb.2 risS_ok (risS_ord _) (by rw [risS_len]; omega) _ w1) [.st, .val (.int (c : Nat)), .val (rws T), .val (sgs sub), .val (rws (rowsW 1 T)), .val (rws (rowsW 0 T)), .un, .un, .un, .un] ⟨_, rfl⟩
    have qA := t.q hb.1 hb.2 hA (allS_ord c 0) (by omega)
    have qR := t.q hb.1 hb.2 (risS_ok (c := c)) (risS_ord _) (by rw [risS_len]; omega)
    have eA := qof_eq t hA (allS_ord c 0) w1
    rw [if_pos hb] at eA
    have eR := qof_eq t (risS_ok (c := c)) (risS_ord _) w1
    rw [if_pos hb] at eR
    have cA := can_eq qA w1
    have fA : Fst (allS 0 c) (rowsW 1 T) (rowsW 0 T) = none := Fst_all qA
    rw [fA] at cA
    exact ⟨w1, right_v (c : Nat) (rws T) (sub.map sg) ((rowsW 1 T).map .int) ((rowsW 0 T).map .int) (sgs (allS 0 c)) (sgs (risS (c : Nat))) _ _ _ false (Fst (risS (c : Nat)) (rowsW 1 T) (rowsW 0 T)).isNone s6 w w1 e0 e1 (by rw [eqI, decide_eq_false fun z => hone.mp z hb]) (fun h => by cases h)
      (fun _ => ⟨lot_comp (by omega) 1 _ _ _ w1, lot_comp (by omega) 0 _ _ _ w1, all6 cb w1, ris6 cb w1, e5, eA, cA, eR, can_eq qR w1, rises_eq t w1, like_eq (bool_ok _) (by decide) (by decide) w1⟩), g1⟩
  · exact ⟨w1, right_v (c : Nat) (rws T) (sub.map sg) [] [] .none .none .none .none _ true true .un w w1 e0 e1 (by rw [eqI, decide_eq_true (hone.mpr hb)]) (fun _ => refused_eq t hb hS oS w1) (fun h => by cases h), g1⟩
/-! ## all tables of one and of two bits -/
def grow (L : List (List Int)) : List (List Int) := L.flatMap fun t => [t ++ [0], t ++ [1]]
def tabs : Nat → List (List Int)
  | 0 => [[]]
  | k + 1 => grow (tabs k)
theorem tabs_ok : ∀ (k : Nat), ∀ t ∈ tabs k, t.length = k ∧ ∀ x ∈ t, x = 0 ∨ x = 1
  | 0, t, h => by
    rw [List.mem_singleton.mp h]
    exact ⟨rfl, fun x hx => by cases hx⟩
  | k + 1, t, h => by
    obtain ⟨u, hu, h2⟩ := List.mem_flatMap.mp h
    obtain ⟨a, b⟩ := tabs_ok k u hu
    simp only [List.mem_cons, List.not_mem_nil, or_false] at h2
    rcases h2 with rfl | rfl
    · refine ⟨by rw [List.length_append, a]; rfl, fun x hx => ?_⟩
      rcases List.mem_append.mp hx with z | z
      · exact b x z
      · exact .inl (List.mem_singleton.mp z)
    · refine ⟨by rw [List.length_append, a]; rfl, fun x hx => ?_⟩
      rcases List.mem_append.mp hx with z | z
      · exact b x z
      · exact .inr (List.mem_singleton.mp z)
theorem grow_len : ∀ L : List (List Int), (grow L).length = 2 * L.length
  | [] => rfl
  | t :: r => by
    show ([t ++ [0], t ++ [1]] ++ grow r).length = _
    rw [List.length_append, grow_len r, List.length_cons, List.length_cons, List.length_cons, List.length_nil]
    omega
theorem tabs_len : ∀ k : Nat, (tabs k).length = 2 ^ k
  | 0 => rfl
  | k + 1 => by
    show (grow (tabs k)).length = _
    rw [grow_len, tabs_len k, Nat.pow_succ]
    omega
noncomputable def lcX : SM := (sSet 8 (eBin addD (eV 8) (eLst (lCons (eBin addD (eV 7) (eTup (lCons (eC (.int 0)) lNil))) (lCons (eBin addD (eV 7) (eTup (lCons (eC (.int 1)) lNil))) lNil)))))
theorem lcA_split : lcA = (sSeq (sSet 8 (eLst lNil)) (sSeq (sFor (.nm 7) (itSeq (eV 5)) lcX) (sSet 5 (eV 8)))) := rfl
theorem add_one (l : List Int) (hl : l.length ≤ 100) (x : Int) : addD (rws l) (.tuple [.int x]) = some (rws (l ++ [x])) := by
  show (if (l.map PyData.int).length + 1 ≤ szL then some (PyData.tuple (l.map PyData.int ++ [.int x])) else none) = _
  rw [if_pos (by rw [List.length_map]; unfold szL; omega)]
  show _ = some (PyData.tuple ((l ++ [x]).map PyData.int))
  rw [List.map_append]
  rfl
theorem lcX_loop (s2 s3 s4 s5 s6 : SV) (w : DS) : ∀ (L G : List (List Int)) (s7 : SV), (∀ t ∈ L, t.length ≤ 100) → G.length + 2 * L.length ≤ 1000 → ∃ s72, forL (.nm 7) lcX (L.map rws) [.un, .st, s2, s3, s4, s5, s6, s7, .val (.list (G.map rws))] w = .nx [.un, .st, s2, s3, s4, s5, s6, s72, .val (.list ((G ++ grow L).map rws))] w
  | [], G, s7, _, _ => ⟨s7, by
    show RS.nx _ w = RS.nx _ w
    rw [show grow [] = [] from rfl, List.append_nil]⟩
  | t :: r, G, s7, h, hl => by
    rw [List.length_cons] at hl
    obtain ⟨s72, ih⟩ := lcX_loop s2 s3 s4 s5 s6 w r (G ++ [t ++ [0], t ++ [1]]) (.val (rws t)) (fun u hu => h u (List.mem_cons_of_mem _ hu)) (by rw [List.length_append, List.length_cons, List.length_cons, List.length_nil]; omega)
    refine ⟨s72, ?_⟩
    have eg : G ++ grow (t :: r) = G ++ [t ++ [0], t ++ [1]] ++ grow r := by
      rw [List.append_assoc]
      rfl
    rw [eg, List.map_cons, forL_nx (r1 := [.un, .st, s2, s3, s4, s5, s6, .val (rws t), .val (.list (G.map rws))]) (r2 := [.un, .st, s2, s3, s4, s5, s6, .val (rws t), .val (.list ((G ++ [t ++ [0], t ++ [1]]).map rws))]) (w2 := w) rfl ?_]
    · exact ih
    · have a0 := add_one t (h t (List.mem_cons_self ..)) 0
      have a1 := add_one t (h t (List.mem_cons_self ..)) 1
      have a2 : addD (.list (G.map rws)) (.list [rws (t ++ [0]), rws (t ++ [1])]) = some (.list ((G ++ [t ++ [0], t ++ [1]]).map rws)) := by
        rw [List.map_append]
        exact if_pos (by rw [List.length_map]; show G.length + 2 ≤ szL; unfold szL; omega)
      generalize (G ++ [t ++ [0], t ++ [1]]).map rws = R at a2
      generalize rws (t ++ [0]) = T0 at a0 a2
      generalize rws (t ++ [1]) = T1 at a1 a2
      generalize G.map rws = GD at a2
      generalize rws t = TD at a0 a1
      have s1 : (1 : Nat) ≤ szL := by decide
      have s2' : (2 : Nat) ≤ szL := by decide
      simp [lcX, a0, a1, a2, s1, s2', szL, fnD, sSeq, sSet, sAsg, sRet, sRetN, sDrop, sIf, sFrz, sPass, sBad, sOwn2, sApp, sPutAt, sPutLf, sFor, eV, eC, eBin, eUn, eCall, eTup, eLst, eIf, eAnd, eOr, eNot, isB, tyAnd, tyOr, tyNot, lNil, lCons, aNl, aCs, vD, vS, aPk, pick, eFn, eTyIs, eTyNot, eChain, eSl, pNo, pSo, eOw1, eOw2, eAt, eCl, eLf, eLn, itSeq, itRg1, itRg2, itEn, tyN, opt, DL.setP, DL.setPs, frz1, List.length_cons, List.length_nil, List.cons_append, List.nil_append, List.getElem?_cons_zero, List.getElem?_cons_succ, List.set_cons_zero, List.set_cons_succ, List.replicate, RE.bind_ok, RE.bindS_ok, noEx_ok, Option.bind_some]
theorem lcA_eq {k : Nat} (hk : k ≤ 4) (s2 s3 s4 s6 s7 s8 : SV) (w : DS) : ∃ s72 s82, lcA [.un, .st, s2, s3, s4, .val (.list ((tabs k).map rws)), s6, s7, s8] w = .nx [.un, .st, s2, s3, s4, .val (.list ((tabs (k + 1)).map rws)), s6, s72, s82] w := by
  have p : 2 ^ k ≤ 2 ^ 4 := Nat.pow_le_pow_right (by decide) hk
  obtain ⟨s72, e⟩ := lcX_loop s2 s3 s4 (.val (.list ((tabs k).map rws))) s6 w (tabs k) [] s7 (fun t ht => by have := (tabs_ok k t ht).1; omega) (by rw [tabs_len]; simp; omega)
  rw [List.nil_append, List.map_nil] at e
  have e2 : forL (.nm 7) lcX ((tabs k).map rws) [.un, .st, s2, s3, s4, .val (.list ((tabs k).map rws)), s6, s7, .val (.list [])] w = .nx [.un, .st, s2, s3, s4, .val (.list ((tabs k).map rws)), s6, s72, .val (.list ((tabs (k + 1)).map rws))] w := e
  refine ⟨s72, .val (.list ((tabs (k + 1)).map rws)), ?_⟩
  generalize (tabs (k + 1)).map rws = R at e2
  generalize (tabs k).map rws = L at e2
  generalize hb : lcX = bd at e2
  simp only [lcA_split, hb]
  simp [e2, szL, fnD, sSeq, sSet, sAsg, sRet, sRetN, sDrop, sIf, sFrz, sPass, sBad, sOwn2, sApp, sPutAt, sPutLf, sFor, eV, eC, eBin, eUn, eCall, eTup, eLst, eIf, eAnd, eOr, eNot, isB, tyAnd, tyOr, tyNot, lNil, lCons, aNl, aCs, vD, vS, aPk, pick, eFn, eTyIs, eTyNot, eChain, eSl, pNo, pSo, eOw1, eOw2, eAt, eCl, eLf, eLn, itSeq, itRg1, itRg2, itEn, tyN, opt, DL.setP, DL.setPs, frz1, List.length_cons, List.length_nil, List.cons_append, List.nil_append, List.getElem?_cons_zero, List.getElem?_cons_succ, List.set_cons_zero, List.set_cons_succ, List.replicate, RE.bind_ok, RE.bindS_ok, noEx_ok, Option.bind_some]
theorem lc1_loop (s2 s3 s4 : SV) (w : DS) : ∀ (j k : Nat) (lo : Int) (s6 s7 s8 : SV), k + j ≤ 5 → ∃ s62 s72 s82, forL (.nm 6) lcA (rgD lo j) [.un, .st, s2, s3, s4, .val (.list ((tabs k).map rws)), s6, s7, s8] w = .nx [.un, .st, s2, s3, s4, .val (.list ((tabs (k + j)).map rws)), s62, s72, s82] w
  | 0, k, lo, s6, s7, s8, _ => ⟨s6, s7, s8, by simp [rgD, forL]⟩
  | j + 1, k, lo, s6, s7, s8, h => by
    obtain ⟨s72, s82, e⟩ := lcA_eq (k := k) (by omega) s2 s3 s4 (.val (.int lo)) s7 s8 w
    obtain ⟨a, b, d, e2⟩ := lc1_loop s2 s3 s4 w j (k + 1) (lo + 1) (.val (.int lo)) s72 s82 (by omega)
    refine ⟨a, b, d, ?_⟩
    rw [rgD_succ, forL_nx rfl e, show k + (j + 1) = k + 1 + j by omega]
    exact e2
theorem lcR_loop {c : Nat} (s3 s4 s5 s6 s8 : SV) : ∀ (L : List (List Int)) (s7 : SV) (m : Nat) (w : DS), (∀ t ∈ L, Tb c t) → Gd m w → m + 16 * L.length + 300 < 2 ^ 60 → ∃ s72 w2, forL (.nm 7) lcR (L.map rws) [.un, .st, .val (.int (c : Nat)), s3, s4, s5, s6, s7, s8] w = .nx [.un, .st, .val (.int (c : Nat)), s3, s4, s5, s6, s72, s8] w2 ∧ Gd (m + 16 * L.length) w2
  | [], s7, m, w, _, g, _ => ⟨s7, w, rfl, g⟩
  | t :: r, s7, m, w, h, g, hm => by
    rw [List.length_cons] at hm
    obtain ⟨w1, e1, g1⟩ := right_eq (h t (List.mem_cons_self ..)) g (by omega)
    obtain ⟨s72, w2, e2, g2⟩ := lcR_loop s3 s4 s5 s6 s8 r (.val (rws t)) (m + 16) w1 (fun u hu => h u (List.mem_cons_of_mem _ hu)) g1 (by omega)
    refine ⟨s72, w2, ?_, g2.mono (by rw [List.length_cons]; omega)⟩
    rw [List.map_cons, forL_nx (r1 := [.un, .st, .val (.int (c : Nat)), s3, s4, s5, s6, .val (rws t), s8]) (r2 := [.un, .st, .val (.int (c : Nat)), s3, s4, s5, s6, .val (rws t), s8]) (w2 := w1) rfl ?_]
    · exact e2
    · generalize rws t = V at e1
      simp [lcR, e1, fnD, sSeq, sSet, sAsg, sRet, sRetN, sDrop, sIf, sFrz, sPass, sBad, sOwn2, sApp, sPutAt, sPutLf, sFor, eV, eC, eBin, eUn, eCall, eTup, eLst, eIf, eAnd, eOr, eNot, isB, tyAnd, tyOr, tyNot, lNil, lCons, aNl, aCs, vD, vS, aPk, pick, eFn, eTyIs, eTyNot, eChain, eSl, pNo, pSo, eOw1, eOw2, eAt, eCl, eLf, eLn, itSeq, itRg1, itRg2, itEn, tyN, opt, DL.setP, DL.setPs, frz1, List.length_cons, List.length_nil, List.cons_append, List.nil_append, List.getElem?_cons_zero, List.getElem?_cons_succ, List.set_cons_zero, List.set_cons_succ, List.replicate, RE.bind_ok, RE.bindS_ok, noEx_ok, Option.bind_some]
theorem lwC_eq {c : Nat} (hc : 1 ≤ c ∧ c ≤ 2) (s3 s4 s5 s6 s7 s8 : SV) {m : Nat} {w : DS} (g : Gd m w) (hm : m + 1000 < 2 ^ 60) : ∃ r5 r6 r7 r8 w2, lwC [.un, .st, .val (.int (c : Nat)), s3, s4, s5, s6, s7, s8] w = .nx [.un, .st, .val (.int (c : Nat)), s3, s4, r5, r6, r7, r8] w2 ∧ Gd (m + 300) w2 := by
  have p4 : 2 ^ c ≤ 2 ^ 2 := Nat.pow_le_pow_right (by decide) hc.2
  have pz : ((2 : Int) ^ ((c : Nat) : Int).toNat) = ((2 ^ c : Nat) : Int) := by
    show (2 : Int) ^ c = _
    rw [Int.natCast_pow]
    rfl
  have ep : ∀ w, g_l_power [.val (.int (c : Nat))] w = .ok (.int ((2 ^ c : Nat) : Int)) w := fun w => by
    rw [power_eq (c : Nat) (by omega) w, pz]
  have cP : -16777216 ≤ ((2 ^ c : Nat) : Int) ∧ ((2 ^ c : Nat) : Int) ≤ 16777216 := by
    generalize 2 ^ c = P at p4 ⊢
    omega
  obtain ⟨r6, r7, r8, e1⟩ := lc1_loop (.val (.int (c : Nat))) s3 s4 w (2 ^ c) 0 0 s6 s7 s8 (by omega)
  rw [Nat.zero_add] at e1
  obtain ⟨s72, w2, e2, g2⟩ := lcR_loop (c := c) s3 s4 (.val (.list ((tabs (2 ^ c)).map rws))) r6 r8 (tabs (2 ^ c)) r7 m w (fun t ht => by
    obtain ⟨a, b⟩ := tabs_ok _ t ht
    exact ⟨by omega, b, a⟩) g (by
    rw [tabs_len]
    have : 2 ^ (2 ^ c) ≤ 2 ^ 4 := Nat.pow_le_pow_right (by decide) p4
    omega)
  refine ⟨.val (.list ((tabs (2 ^ c)).map rws)), r6, s72, r8, w2, ?_, g2.mono (by
    rw [tabs_len]
    have : 2 ^ (2 ^ c) ≤ 2 ^ 4 := Nat.pow_le_pow_right (by decide) p4
    omega)⟩
  have h0 : lc0 [.un, .st, .val (.int (c : Nat)), s3, s4, s5, s6, s7, s8] w = .nx [.un, .st, .val (.int (c : Nat)), s3, s4, .val (.list ((tabs 0).map rws)), s6, s7, s8] w := by
    show _ = RS.nx [.un, .st, .val (.int (c : Nat)), s3, s4, .val (.list [.tuple []]), s6, s7, s8] w
    simp [lc0, szL, fnD, sSeq, sSet, sAsg, sRet, sRetN, sDrop, sIf, sFrz, sPass, sBad, sOwn2, sApp, sPutAt, sPutLf, sFor, eV, eC, eBin, eUn, eCall, eTup, eLst, eIf, eAnd, eOr, eNot, isB, tyAnd, tyOr, tyNot, lNil, lCons, aNl, aCs, vD, vS, aPk, pick, eFn, eTyIs, eTyNot, eChain, eSl, pNo, pSo, eOw1, eOw2, eAt, eCl, eLf, eLn, itSeq, itRg1, itRg2, itEn, tyN, opt, DL.setP, DL.setPs, frz1, List.length_cons, List.length_nil, List.cons_append, List.nil_append, List.getElem?_cons_zero, List.getElem?_cons_succ, List.set_cons_zero, List.set_cons_succ, List.replicate, RE.bind_ok, RE.bindS_ok, noEx_ok, Option.bind_some]
  have h1 : lc1 [.un, .st, .val (.int (c : Nat)), s3, s4, .val (.list ((tabs 0).map rws)), s6, s7, s8] w = .nx [.un, .st, .val (.int (c : Nat)), s3, s4, .val (.list ((tabs (2 ^ c)).map rws)), r6, r7, r8] w := by
    generalize (tabs (2 ^ c)).map rws = R at e1
    generalize (tabs 0).map rws = L at e1
    generalize 2 ^ c = P at e1 ep cP
    generalize hb : lcA = bd at e1
    simp only [lc1, hb]
    simp [ep, cP, e1, fnD, sSeq, sSet, sAsg, sRet, sRetN, sDrop, sIf, sFrz, sPass, sBad, sOwn2, sApp, sPutAt, sPutLf, sFor, eV, eC, eBin, eUn, eCall, eTup, eLst, eIf, eAnd, eOr, eNot, isB, tyAnd, tyOr, tyNot, lNil, lCons, aNl, aCs, vD, vS, aPk, pick, eFn, eTyIs, eTyNot, eChain, eSl, pNo, pSo, eOw1, eOw2, eAt, eCl, eLf, eLn, itSeq, itRg1, itRg2, itEn, tyN, opt, DL.setP, DL.setPs, frz1, List.length_cons, List.length_nil, List.cons_append, List.nil_append, List.getElem?_cons_zero, List.getElem?_cons_succ, List.set_cons_zero, List.set_cons_succ, List.replicate, RE.bind_ok, RE.bindS_ok, noEx_ok, Option.bind_some]
  rw [lc_split, seq_nx h0, seq_nx h1]
  exact e2
theorem lwD_loop : ∀ (k : Nat) (lo : Int) (s2 s3 s5 s6 s7 s8 : SV) (m : Nat) (w : DS), Gd m w → m + 200 * k + 1000 < 2 ^ 60 → ∃ r2 r3 w2, forL (.nm 3) lwD (rgD lo k) [.un, .st, s2, s3, .un, s5, s6, s7, s8] w = .nx [.un, .st, r2, r3, .un, s5, s6, s7, s8] w2
  | 0, lo, s2, s3, s5, s6, s7, s8, m, w, g, hm => ⟨s2, s3, w, by simp [rgD, forL]⟩
  | k + 1, lo, s2, s3, s5, s6, s7, s8, m, w, g, hm => by
    obtain ⟨v, w1, e1, v0, v1, g1⟩ := draw_ok g (by omega) 4 (by decide) (by decide)
    obtain ⟨c, hc, ec⟩ : ∃ c : Nat, (1 ≤ c ∧ c ≤ 6) ∧ (3 : Int) + v = (c : Nat) := ⟨(3 + v).toNat, by omega, by omega⟩
    obtain ⟨T, w2, e2, t, g2⟩ := worths_eq hc g1 (by omega)
    obtain ⟨w3, e3, g3⟩ := right_eq t g2 (by omega)
    obtain ⟨r2, r3, w4, e4⟩ := lwD_loop k (lo + 1) (.val (.int (c : Nat))) (.val (.int lo)) s5 s6 s7 s8 _ w3 (g3.mono (show _ ≤ m + 200 by omega)) (by omega)
    refine ⟨r2, r3, w4, ?_⟩
    rw [rgD_succ, forL_nx (r1 := [.un, .st, s2, .val (.int lo), .un, s5, s6, s7, s8]) (r2 := [.un, .st, .val (.int (c : Nat)), .val (.int lo), .un, s5, s6, s7, s8]) (w2 := w3) rfl ?_]
    · exact e4
    · generalize rws T = V at e2 e3
      simp [lwD, addD, e1, ec, e2, e3, fnD, sSeq, sSet, sAsg, sRet, sRetN, sDrop, sIf, sFrz, sPass, sBad, sOwn2, sApp, sPutAt, sPutLf, sFor, eV, eC, eBin, eUn, eCall, eTup, eLst, eIf, eAnd, eOr, eNot, isB, tyAnd, tyOr, tyNot, lNil, lCons, aNl, aCs, vD, vS, aPk, pick, eFn, eTyIs, eTyNot, eChain, eSl, pNo, pSo, eOw1, eOw2, eAt, eCl, eLf, eLn, itSeq, itRg1, itRg2, itEn, tyN, opt, DL.setP, DL.setPs, frz1, List.length_cons, List.length_nil, List.cons_append, List.nil_append, List.getElem?_cons_zero, List.getElem?_cons_succ, List.set_cons_zero, List.set_cons_succ, List.replicate, RE.bind_ok, RE.bindS_ok, noEx_ok, Option.bind_some]
/-! ## eight bits, one row of 1 -/
def lastT : List Int := List.replicate 255 0 ++ [1]
theorem last_tb : Tb 8 lastT := ⟨by decide, fun x hx => by
  rcases List.mem_append.mp hx with z | z
  · exact .inl (List.eq_of_mem_replicate z)
  · exact .inr (List.mem_singleton.mp z), by decide +kernel⟩
theorem last_near : rowsW 1 lastT = [255] := by decide +kernel
theorem last_far : (rowsW 0 lastT).length = 255 := by decide +kernel
theorem last_can : (Fst (risS 8) (rowsW 1 lastT) (rowsW 0 lastT)).isNone = true := by
  rw [Option.isNone_iff_eq_none, Fst_none, last_near]
  intro y hy n hn
  rw [List.mem_singleton.mp hy]
  have hb := rowsW_bd last_tb 0 n hn
  have h8 : ((8 : Nat) : Int).toNat = 8 := rfl
  rw [h8] at hb
  have s := sep_ris (c := 8) (y := 255) (n := n) (by decide) hb.1
  rw [s, Bool.not_eq_true', decide_eq_false_iff_not]
  intro h
  have hne : n ≠ 255 := fun e => by
    subst e
    obtain ⟨i, h1, h2⟩ := rowsW_mem.mp hn
    have : i = 255 := by omega
    subst this
    revert h2
    decide +kernel
  obtain ⟨j, rfl⟩ : ∃ j : Nat, n = (j : Nat) := ⟨n.toNat, by omega⟩
  have hj : j < 255 := by omega
  have h2 : ((255 &&& j : Nat) : Int) = 255 := by rw [← h]; exact (land_eq 255 j).symm
  have h3 : 255 &&& j ≤ j := Nat.and_le_right
  omega
theorem last_v (V RS' Q' : PyData) (Y : PyData) (N : List PyData) (w : DS) (z : List PyData) (s2 s3 s5 s6 s7 s8 : SV)
    (m1 : mulG (.tuple [.int 0]) (.int 255) = some (.tuple z)) (m2 : addD (.tuple z) (.tuple [.int 1]) = some V) (e1 : g_p_rising_signs [.val (.int 8)] w = .ok RS' w) (e2 : g_p_question_of [.val (.int 8), .val RS', .val V] w = .ok Q' w)
    (i2 : ixD Q' (.int 2) = some (.tuple [.int 255])) (i3 : ixD Q' (.int 3) = some (.tuple N)) (ln : lenD [.tuple N] = some (.int 255)) (e3 : g_p_can_be [.val Q'] w = .ok (.bool true) w)
    (k : likeG [.val (.list [.tuple [.int 255], .int 255, .bool true]), .val (.list [.tuple [.int 255], .int 255, .bool true])] w = .ok (.bool true) w) : sSeq lw2 lw3 [.un, .st, s2, s3, .un, s5, s6, s7, s8] w = .rt (.bool true) w := by
  have s1 : (1 : Nat) ≤ szL := by decide
  have s3' : (3 : Nat) ≤ szL := by decide
  have h2 : lw2 [.un, .st, s2, s3, .un, s5, s6, s7, s8] w = .nx [.un, .st, s2, s3, .val Q', s5, s6, s7, s8] w := by
    simp [lw2, m1, m2, e1, e2, s1, aPk, fnD, sSeq, sSet, sAsg, sRet, sRetN, sDrop, sIf, sFrz, sPass, sBad, sOwn2, sApp, sPutAt, sPutLf, sFor, eV, eC, eBin, eUn, eCall, eTup, eLst, eIf, eAnd, eOr, eNot, isB, tyAnd, tyOr, tyNot, lNil, lCons, aNl, aCs, vD, vS, aPk, pick, eFn, eTyIs, eTyNot, eChain, eSl, pNo, pSo, eOw1, eOw2, eAt, eCl, eLf, eLn, itSeq, itRg1, itRg2, itEn, tyN, opt, DL.setP, DL.setPs, frz1, List.length_cons, List.length_nil, List.cons_append, List.nil_append, List.getElem?_cons_zero, List.getElem?_cons_succ, List.set_cons_zero, List.set_cons_succ, List.replicate, RE.bind_ok, RE.bindS_ok, noEx_ok, Option.bind_some]
  rw [seq_nx h2]
  simp [lw3, i2, i3, ln, e3, k, s1, s3', fnD, sSeq, sSet, sAsg, sRet, sRetN, sDrop, sIf, sFrz, sPass, sBad, sOwn2, sApp, sPutAt, sPutLf, sFor, eV, eC, eBin, eUn, eCall, eTup, eLst, eIf, eAnd, eOr, eNot, isB, tyAnd, tyOr, tyNot, lNil, lCons, aNl, aCs, vD, vS, aPk, pick, eFn, eTyIs, eTyNot, eChain, eSl, pNo, pSo, eOw1, eOw2, eAt, eCl, eLf, eLn, itSeq, itRg1, itRg2, itEn, tyN, opt, DL.setP, DL.setPs, frz1, List.length_cons, List.length_nil, List.cons_append, List.nil_append, List.getElem?_cons_zero, List.getElem?_cons_succ, List.set_cons_zero, List.set_cons_succ, List.replicate, RE.bind_ok, RE.bindS_ok, noEx_ok, Option.bind_some]
theorem three_k : Ok (40 * 3) 2 (.list [.tuple [.int 255], .int 255, .bool true]) := list_ok (W := 39) (D := 1) 3 (three_ok ((tup_ok (W := 16) (D := 0) 1 (fun d hd => by
  rw [List.mem_singleton.mp hd]
  exact int_ok (by decide)) (Nat.le_refl _)).mono (by decide) (by decide)) ((int_ok (by decide)).mono (by decide) (by decide)) ((bool_ok _).mono (by decide) (by decide))) (Nat.le_refl _)
theorem math : ∀ w : DS, w.lefts.length = w.cells.length → 0 < w.cells.length → w.cells.length ≤ 63 → w.num = 0 → ∃ w2, b_law_ r_law_ w = .rt (.bool true) w2 := fun w h1 h2 _ h4 => by
  obtain ⟨a5, a6, a7, a8, w1, e1, g1⟩ := lwC_eq (c := 1) (by decide) .un .un .un .un .un .un (m := 0) (w := w) ⟨h1, h2, by omega⟩ (by decide)
  obtain ⟨b5, b6, b7, b8, w2, e2, g2⟩ := lwC_eq (c := 2) (by decide) .un .un a5 a6 a7 a8 g1 (by decide)
  obtain ⟨r2, r3, w3, e3⟩ := lwD_loop 4 0 (.val (.int 2)) .un b5 b6 b7 b8 _ w2 g2 (by decide)
  refine ⟨w3, ?_⟩
  have l0 : lw0 r_law_ w = .nx [.un, .st, .val (.int 2), .un, .un, b5, b6, b7, b8] w2 := by
    show forL (.nm 2) lwC [.int 1, .int 2] r_law_ w = _
    rw [forL_nx (r1 := [.un, .st, .val (.int 1), .un, .un, .un, .un, .un, .un]) rfl e1, forL_nx (r1 := [.un, .st, .val (.int 2), .un, .un, a5, a6, a7, a8]) rfl e2]
    rfl
  have mem0 : (0 : Int) ∈ lastT := List.mem_append_left _ (List.mem_replicate.mpr ⟨by decide, rfl⟩)
  have mem1 : (1 : Int) ∈ lastT := List.mem_append_right _ (List.mem_singleton.mpr rfl)
  have q := last_tb.q mem0 mem1 (risS_ok (c := 8)) (risS_ord _) (by rw [risS_len]; decide)
  have eq := qof_eq last_tb (risS_ok (c := 8)) (risS_ord _) w3
  rw [if_pos ⟨mem0, mem1⟩] at eq
  have cb := can_eq q w3
  have lc : (Fst (risS ((8 : Nat) : Int)) (rowsW 1 lastT) (rowsW 0 lastT)).isNone = true := last_can
  rw [lc] at cb
  have i2 : ixD (qd ((8 : Nat) : Int) (risS ((8 : Nat) : Int)) (rowsW 1 lastT) (rowsW 0 lastT)) (.int 2) = some (.tuple [.int 255]) := by
    rw [last_near]
    exact ixT2 _ _ _ _
  have i3 : ixD (qd ((8 : Nat) : Int) (risS ((8 : Nat) : Int)) (rowsW 1 lastT) (rowsW 0 lastT)) (.int 3) = some (.tuple ((rowsW 0 lastT).map .int)) := ixT3 _ _ _ _ _
  rw [lw_split, seq_nx l0, seq_nx (show lw1 _ w2 = _ from e3)]
  exact last_v (rws lastT) (sgs (risS ((8 : Nat) : Int))) _ .none ((rowsW 0 lastT).map .int) w3 (List.replicate 255 (.int 0)) r2 r3 b5 b6 b7 b8 (by rfl) (by rfl) (ris6 (by decide) w3) eq i2 i3 (by
    show some (PyData.int _) = _
    rw [List.length_map, last_far]
    rfl) cb (like_eq three_k (by decide) (by decide) w3)
end K03

open PyProof.Rows PySem PySem.W
set_option maxHeartbeats 0 in
theorem PySem.Challenge.cw_saidbetween_k03_whole_questions_of_table_holds : PySem.Challenge.rw_saidbetween_k03_whole_questions_of_table.Holds := by
  w_on; o_law; k_head; (case hw => w_witness2)
  k_fill
  refine DL.endT_walk (l := PySem.Challenge.rw_saidbetween_k03_whole_questions_of_table) (n := 63) (k := 9) (x := "script") (sp := DL.spLaw) (mk := []) rfl rfl (by decide) rfl ⟨rfl, by decide, by decide⟩ (fun w h Y => PySem.W.kIn_of Y) ?R ?F (fun K H a ns hl hS hT => ⟨a, ns, rfl, hS, hl, hT, fun _ => rfl⟩)
  case R =>
    intro y hy
    simp only [List.mem_cons, List.not_mem_nil, or_false] at hy
  case F =>
    intro w mg fa h KX G hmg
    refine' K03.all_mk KX G hmg ?a0 ?l0 ?c0 ?k0 ?a1 ?l1 ?c1 ?k1 ?a2 ?l2 ?c2 ?k2 ?a3 ?l3 ?c3 ?k3 ?a4 ?l4 ?c4 ?k4 ?a5 ?l5 ?c5 ?k5 ?a6 ?l6 ?c6 ?k6 ?a7 ?l7 ?c7 ?k7 ?a8 ?l8 ?c8 ?k8 ?a9 ?l9 ?c9 ?k9 ?a10 ?l10 ?c10 ?k10 ?a11 ?l11 ?c11 ?k11 ?a12 ?l12 ?c12 ?k12 ?a13 ?l13 ?c13 ?k13 ?a14 ?l14 ?c14 ?k14 ?a15 ?l15 ?c15 ?k15 ?a16 ?l16 ?c16 ?k16 ?a17 ?l17 ?c17 ?k17 ?a18 ?l18 ?c18 ?k18 ?a19 ?l19 ?c19 ?k19 ?a20 ?l20 ?c20 ?k20 ?a21 ?l21 ?c21 ?k21 ?a22 ?l22 ?c22 ?k22 ?a23 ?l23 ?c23 ?k23 ?a24 ?l24 ?c24 ?k24 ?a25 ?l25 ?c25 ?k25 ?a26 ?l26 ?c26 ?k26 ?a27 ?l27 ?c27 ?k27 ?a28 ?l28 ?c28 ?k28 ?a29 ?l29 ?c29 ?k29 ?a30 ?l30 ?c30 ?k30 ?a31 ?l31 ?c31 ?k31 ?a32 ?l32 ?c32 ?k32 ?v_MOST_BITS ?z_enumerate ?z_int ?z_isinstance ?z_len ?z_list ?z_range ?z_repr ?z_set ?z_sum ?z_tuple ?z_type ?ec_BadQuestion ?ec_BadTable ?ec_BadParameter ?ex_BadTable ?er_BadTable ?es_BadTable ?en_BadTable ?ei_BadTable ?et_BadTable ?el_BadTable ?eo_BadTable ?ek_BadTable ?eb_BadTable ?ey_BadTable ?ew_BadTable ?ex_BadParameter ?er_BadParameter ?es_BadParameter ?en_BadParameter ?ei_BadParameter ?et_BadParameter ?el_BadParameter ?eo_BadParameter ?ek_BadParameter ?eb_BadParameter ?ey_BadParameter ?ew_BadParameter ?hb_BadParameter ?hi_BadParameter ?hy_BadParameter ?hs_BadQuestion_BadParameter ?hs_BadTable_BadParameter ?hs_BadParameter_BadParameter ?ec_S ?ni_S ?ny_S ?nga_BadParameter ?ngg_BadParameter ?nhd_BadParameter ?nno_BadParameter ?nha_BadParameter ?nhn_BadParameter ?nht_BadParameter ?nhm_BadParameter ?nsu_BadParameter ?ja_is_parting ?ja__law_two ?ja__law_great_right K03.math
    (case a0 => k_is); (case l0 => k_is); (case c0 => k_is); (case k0 => k_is); (case a1 => k_is); (case l1 => k_is); (case c1 => k_is); (case k1 => k_is); (case a2 => k_is); (case l2 => k_is); (case c2 => k_is); (case k2 => k_is); (case a3 => k_is); (case l3 => k_is); (case c3 => k_is); (case k3 => k_is); (case a4 => k_is); (case l4 => k_is); (case c4 => k_is); (case k4 => k_is); (case a5 => k_is); (case l5 => k_is); (case c5 => k_is); (case k5 => k_is); (case a6 => k_is); (case l6 => k_is); (case c6 => k_is); (case k6 => k_is); (case a7 => k_is); (case l7 => k_is); (case c7 => k_is); (case k7 => k_is); (case a8 => k_is); (case l8 => k_is); (case c8 => k_is); (case k8 => k_is); (case a9 => k_is); (case l9 => k_is); (case c9 => k_is); (case k9 => k_is); (case a10 => k_is); (case l10 => k_is); (case c10 => k_is); (case k10 => k_is); (case a11 => k_is); (case l11 => k_is); (case c11 => k_is); (case k11 => k_is); (case a12 => k_is); (case l12 => k_is); (case c12 => k_is); (case k12 => k_is); (case a13 => k_is); (case l13 => k_is); (case c13 => k_is); (case k13 => k_is); (case a14 => k_is); (case l14 => k_is); (case c14 => k_is); (case k14 => k_is); (case a15 => k_is); (case l15 => k_is); (case c15 => k_is); (case k15 => k_is); (case a16 => k_is); (case l16 => k_is); (case c16 => k_is); (case k16 => k_is); (case a17 => k_is); (case l17 => k_is); (case c17 => k_is); (case k17 => k_is); (case a18 => k_is); (case l18 => k_is); (case c18 => k_is); (case k18 => k_is); (case a19 => k_is); (case l19 => k_is); (case c19 => k_is); (case k19 => k_is); (case a20 => k_is); (case l20 => k_is); (case c20 => k_is); (case k20 => k_is); (case a21 => k_is); (case l21 => k_is); (case c21 => k_is); (case k21 => k_is); (case a22 => k_is); (case l22 => k_is); (case c22 => k_is); (case k22 => k_is); (case a23 => k_is); (case l23 => k_is); (case c23 => k_is); (case k23 => k_is); (case a24 => k_is); (case l24 => k_is); (case c24 => k_is); (case k24 => k_is); (case a25 => k_is); (case l25 => k_is); (case c25 => k_is); (case k25 => k_is); (case a26 => k_is); (case l26 => k_is); (case c26 => k_is); (case k26 => k_is); (case a27 => k_is); (case l27 => k_is); (case c27 => k_is); (case k27 => k_is); (case a28 => k_is); (case l28 => k_is); (case c28 => k_is); (case k28 => k_is); (case a29 => k_is); (case l29 => k_is); (case c29 => k_is); (case k29 => k_is); (case a30 => k_is); (case l30 => k_is); (case c30 => k_is); (case k30 => k_is); (case a31 => k_is); (case l31 => k_is); (case c31 => k_is); (case k31 => k_is); (case a32 => k_is); (case l32 => k_is); (case c32 => k_is); (case k32 => k_is); (case v_MOST_BITS => k_is); (case z_enumerate => k_is); (case z_int => k_is); (case z_isinstance => k_is); (case z_len => k_is); (case z_list => k_is); (case z_range => k_is); (case z_repr => k_is); (case z_set => k_is); (case z_sum => k_is); (case z_tuple => k_is); (case z_type => k_is); (case ec_BadQuestion => k_is); (case ec_BadTable => k_is); (case ec_BadParameter => k_is); (case ex_BadTable => k_is); (case er_BadTable => first | rfl | decide +kernel); (case es_BadTable => k_is); (case en_BadTable => k_is); (case ei_BadTable => k_is); (case et_BadTable => k_is); (case el_BadTable => k_is); (case eo_BadTable => k_is); (case ek_BadTable => k_is); (case eb_BadTable => k_is); (case ey_BadTable => k_is); (case ew_BadTable => k_is); (case ex_BadParameter => k_is); (case er_BadParameter => first | rfl | decide +kernel); (case es_BadParameter => k_is); (case en_BadParameter => k_is); (case ei_BadParameter => k_is); (case et_BadParameter => k_is); (case el_BadParameter => k_is); (case eo_BadParameter => k_is); (case ek_BadParameter => k_is); (case eb_BadParameter => k_is); (case ey_BadParameter => k_is); (case ew_BadParameter => k_is); (case hb_BadParameter => k_is); (case hi_BadParameter => k_is); (case hy_BadParameter => k_is); (case hs_BadQuestion_BadParameter => k_is); (case hs_BadTable_BadParameter => k_is); (case hs_BadParameter_BadParameter => k_is); (case ec_S => k_is); (case ni_S => k_is); (case ny_S => k_is); (case nga_BadParameter => k_is); (case ngg_BadParameter => k_is); (case nhd_BadParameter => k_is); (case nno_BadParameter => k_is); (case nha_BadParameter => k_is); (case nhn_BadParameter => k_is); (case nht_BadParameter => k_is); (case nhm_BadParameter => k_is); (case nsu_BadParameter => k_is); (case ja_is_parting => kernel_rfl); (case ja__law_two => kernel_rfl); (case ja__law_great_right => kernel_rfl)

