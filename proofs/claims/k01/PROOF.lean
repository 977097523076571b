import PyProof.Rows.All
import Wide.All
import OpenK.AllK
import Wide.FinOn
import HandS.Base
import HandS.Call
import HandS.List
import HandS.Dict
import HandS.Lambda
import HandS.Words
import HandS.WordsList
import HandS.WordsExc
import HandS.Wide
import HandS.IsInst
import HandS.Comp
import HandS.Exc
import HandS.ExcOwn
import HandS.More
import HandS.Style
import HandS.Flow
import HandS.SortInts
import HandS.Iter
import PyProof.WalkInts
import PyProof.Rows.CallKwBuiltin
import HandS.SortKw
import HandS.ExcIs
import HandS.TryOnly
import HandS.EndTab
import HandS.NestedK
import PySem.Challenge.RW_stretchkeeper_k01_stretches
set_option Elab.async false
set_option linter.all false
set_option maxRecDepth 100000
/-! Fl0: values as plain data (Dt), what is frozen (F) and what may change (Om), and the judgements over them. -/
namespace Fl
open PySem PySem.Spec PyProof.Rows L2

/-- plain data; emp: an empty dict -/
inductive Dt where
  | non | bl (b : Bool) | int (i : Int) | str (s : Str) | lst (l : List Dt) | tup (l : List Dt) | emp

def Ex (H H' : Hp) : Prop := ∀ a o, H a = some o → H' a = some o
theorem Ex.refl (H : Hp) : Ex H H := fun _ _ h => h
theorem Ex.trans {H H1 H2 : Hp} (a : Ex H H1) (b : Ex H1 H2) : Ex H H2 := fun x o h => b x o (a x o h)
theorem Ex.new {H : Hp} {p : Addr} {o : HO} (h : H p = none) : Ex H (upd H p o) := fun a u e => by
  rw [upd_ne (ne_of_none e h)]
  exact e
theorem Ex.free {H H' : Hp} {p : Addr} (e : Ex H H') (h : H' p = none) : H p = none := by
  cases h1 : H p with
  | none => rfl
  | some o =>
    rw [e p o h1] at h
    cases h
theorem Ex.rd {H H' : Hp} {a : Addr} {u : HO} (e : Ex H H') (h : Rd H a u) : Rd H' a u := by
  rcases h with h | ⟨o, h⟩
  · exact .inl (e a _ h)
  · exact .inr ⟨o, e a _ h⟩
theorem Ex.sqL {K : PySem.W.Frag} {H H' : Hp} {a : Addr} {xs : List V} (e : Ex H H') (h : SqL K H a xs) : SqL K H' a xs := by
  rcases h with h | h
  · exact .inl (e.rd h)
  · exact .inr h
theorem Ex.sqT {K : PySem.W.Frag} {H H' : Hp} {a : Addr} {xs : List V} (e : Ex H H') (h : SqT K H a xs) : SqT K H' a xs := by
  rcases h with h | h
  · exact .inl (e.rd h)
  · exact .inr h

/-- an exception object of the class at C stands at a -/
def ExO (C a : Addr) : HO := .ext fun h => ∃ (oe : Obj) (vs : Array Value), h.get? a = some oe ∧ Zc (.ref C) none oe ∧ oe.data = .fields vs

mutual
/-- the value v is the data d, over the frozen part F -/
inductive Rp (K : PySem.W.Frag) (F : Hp) : V → Dt → Prop
  | non : Rp K F .non .non
  | bl (b : Bool) : Rp K F (.bl b) (.bl b)
  | int (i : Int) : Rp K F (.int i) (.int i)
  | str (x : Str) : Rp K F (.str x) (.str x)
  | lst {a : Addr} {xs : List V} {ds : List Dt} : F a = some (.lst xs) → RpL K F xs ds → Rp K F (.ref a) (.lst ds)
  | tup {a : Addr} {xs : List V} {ds : List Dt} : F a = some (.tup xs) → RpL K F xs ds → Rp K F (.ref a) (.tup ds)
  | emp {a : Addr} : F a = some (.dK []) → Rp K F (.ref a) .emp
inductive RpL (K : PySem.W.Frag) (F : Hp) : List V → List Dt → Prop
  | nil : RpL K F [] []
  | cons {v : V} {vs : List V} {d : Dt} {ds : List Dt} : Rp K F v d → RpL K F vs ds → RpL K F (v :: vs) (d :: ds)
end

section
variable {K : PySem.W.Frag} {F F' : Hp}
mutual
theorem Rp.mono (e : Ex F F') : ∀ {v : V} {d : Dt}, Rp K F v d → Rp K F' v d
  | _, _, .non => .non
  | _, _, .bl b => .bl b
  | _, _, .int i => .int i
  | _, _, .str x => .str x
  | _, _, .lst h r => .lst (e _ _ h) (RpL.mono e r)
  | _, _, .tup h r => .tup (e _ _ h) (RpL.mono e r)
  | _, _, .emp h => .emp (e _ _ h)
theorem RpL.mono (e : Ex F F') : ∀ {vs : List V} {ds : List Dt}, RpL K F vs ds → RpL K F' vs ds
  | _, _, .nil => .nil
  | _, _, .cons h r => .cons (Rp.mono e h) (RpL.mono e r)
end
theorem RpL.length : ∀ {vs : List V} {ds : List Dt}, RpL K F vs ds → vs.length = ds.length
  | _, _, .nil => rfl
  | _, _, .cons _ r => congrArg (· + 1) (RpL.length r)
theorem RpL.get : ∀ {vs : List V} {ds : List Dt} {i : Nat} {d : Dt}, RpL K F vs ds → ds[i]? = some d → ∃ v, vs[i]? = some v ∧ Rp K F v d
  | _, _, _, _, .nil, e => by simp at e
  | _, _, 0, _, .cons h _, e => by simp at e; subst e; exact ⟨_, rfl, h⟩
  | _, _, i + 1, d, .cons _ r, e => by
    obtain ⟨v, h1, h2⟩ := RpL.get (i := i) (d := d) r (by simpa using e)
    exact ⟨v, by simpa using h1, h2⟩
theorem RpL.getV : ∀ {vs : List V} {ds : List Dt} {i : Nat} {v : V}, RpL K F vs ds → vs[i]? = some v → ∃ d, ds[i]? = some d ∧ Rp K F v d
  | _, _, _, _, .nil, e => by simp at e
  | _, _, 0, _, .cons h _, e => by simp at e; subst e; exact ⟨_, rfl, h⟩
  | _, _, i + 1, v, .cons _ r, e => by
    obtain ⟨d, h1, h2⟩ := RpL.getV (i := i) (v := v) r (by simpa using e)
    exact ⟨d, by simpa using h1, h2⟩
theorem RpL.append : ∀ {vs ws : List V} {ds es : List Dt}, RpL K F vs ds → RpL K F ws es → RpL K F (vs ++ ws) (ds ++ es)
  | _, _, _, _, .nil, r => r
  | _, _, _, _, .cons h r, q => .cons h (RpL.append r q)
theorem RpL.take : ∀ {vs : List V} {ds : List Dt} (n : Nat), RpL K F vs ds → RpL K F (vs.take n) (ds.take n)
  | _, _, 0, _ => .nil
  | _, _, _ + 1, .nil => .nil
  | _, _, n + 1, .cons h r => .cons h (RpL.take n r)
theorem RpL.drop : ∀ {vs : List V} {ds : List Dt} (n : Nat), RpL K F vs ds → RpL K F (vs.drop n) (ds.drop n)
  | _, _, 0, r => r
  | _, _, _ + 1, .nil => .nil
  | _, _, n + 1, .cons _ r => RpL.drop n r
theorem RpL.ints : ∀ {vs : List V} {ns : List Int}, RpL K F vs (ns.map Dt.int) → vs = ns.map V.int
  | [], [], _ => rfl
  | _ :: _, _ :: _, .cons (.int _) r => congrArg _ (RpL.ints r)
theorem RpL.of_ints : ∀ (ns : List Int), RpL K F (ns.map V.int) (ns.map Dt.int)
  | [] => .nil
  | n :: ns => .cons (.int n) (RpL.of_ints ns)
end

/-! ### what may change -/
inductive M where
  | lst (ds : List Dt)
  | ins (C : Addr) (fs : List (Str × Dt))
abbrev Om := Addr → Option M
def Om.set (ω : Om) (p : Addr) (m : M) : Om := fun a => if a = p then some m else ω a
def Om.del (ω : Om) (p : Addr) : Om := fun a => if a = p then none else ω a
theorem Om.set_same {ω : Om} {p : Addr} {m : M} : ω.set p m p = some m := by unfold Om.set; rw [if_pos rfl]
theorem Om.set_ne {ω : Om} {p q : Addr} {m : M} (h : q ≠ p) : ω.set p m q = ω q := by unfold Om.set; rw [if_neg h]
theorem Om.del_same {ω : Om} {p : Addr} : ω.del p p = none := by unfold Om.del; rw [if_pos rfl]
theorem Om.del_ne {ω : Om} {p q : Addr} (h : q ≠ p) : ω.del p q = ω q := by unfold Om.del; rw [if_neg h]
theorem Om.del_set {ω : Om} {p : Addr} {m : M} (h : ω p = none) : (ω.set p m).del p = ω := by
  funext a
  by_cases e : a = p
  · rw [e, Om.del_same, h]
  · rw [Om.del_ne e, Om.set_ne e]
theorem Om.set_set {ω : Om} {p : Addr} {m n : M} : (ω.set p m).set p n = ω.set p n := by
  funext a
  by_cases e : a = p
  · rw [e, Om.set_same, Om.set_same]
  · rw [Om.set_ne e, Om.set_ne e, Om.set_ne e]
def FsOk (K : PySem.W.Frag) (F : Hp) : List (Str × V) → List (Str × Dt) → Prop := Paired fun p q => p.1 = q.1 ∧ Rp K F p.2 q.2
def MOk (K : PySem.W.Frag) (F : Hp) (H : Hp) (a : Addr) : M → Prop
  | .lst ds => ∃ vs, H a = some (.lst vs) ∧ RpL K F vs ds
  | .ins C fs => ∃ dx vs, H a = some (.ins C dx vs) ∧ F dx = some (.own a) ∧ FsOk K F vs fs

/-- a slot; ro l: a list that is read alone (the script); exn C: an exception of the class at C -/
inductive Sl where
  | un | any | d (x : Dt) | v (x : V) | exn (C : Addr) | ro (l : List Dt)
def SlOk (K : PySem.W.Frag) (F : Hp) : Option V → Sl → Prop
  | none, .un => True
  | _, .any => True
  | some v, .d x => Rp K F v x
  | some v, .v x => v = x
  | some v, .exn C => ∃ a, v = .ref a ∧ F a = some (ExO C a)
  | some v, .ro l => ∃ a xs, v = .ref a ∧ SqL K F a xs ∧ RpL K F xs l
  | _, _ => False
def SlsOk (K : PySem.W.Frag) (F : Hp) : L2.St → List Sl → Prop := Paired (SlOk K F)

structure StOk (K : PySem.W.Frag) (T : List (Addr × Str)) (F H : Hp) (σ : L2.St) (δ : List Sl) (ω : Om) : Prop where
  ex : Ex F H
  nt : ∀ a ps, F a ≠ some (.tbl ps)
  tb : LamX.Tabs T H
  sl : SlsOk K F σ δ
  om : ∀ a m, ω a = some m → F a = none ∧ MOk K F H a m

section
variable {K : PySem.W.Frag} {T : List (Addr × Str)} {F F' H H' : Hp} {σ σ' : L2.St} {δ δ' : List Sl} {ω ω' : Om} {p : Addr} {o : HO}
theorem SlOk.mono (e : Ex F F') : ∀ {v : Option V} {x : Sl}, SlOk K F v x → SlOk K F' v x
  | none, .un, _ => trivial
  | none, .any, _ => trivial
  | some _, .any, _ => trivial
  | some _, .d _, h => Rp.mono e h
  | some _, .v _, h => h
  | some _, .exn _, ⟨a, h1, h2⟩ => ⟨a, h1, e _ _ h2⟩
  | some _, .ro _, ⟨a, xs, h1, h2, h3⟩ => ⟨a, xs, h1, e.sqL h2, h3.mono e⟩
theorem SlsOk.mono (e : Ex F F') : ∀ {σ : L2.St} {δ : List Sl}, SlsOk K F σ δ → SlsOk K F' σ δ
  | _, _, .nil => .nil
  | _, _, .cons h r => .cons (h.mono e) (SlsOk.mono e r)
theorem SlsOk.set {x : Sl} {v : Option V} (r : SlOk K F v x) : ∀ {σ : L2.St} {δ : List Sl} (i : Nat), SlsOk K F σ δ → SlsOk K F (σ.set i v) (δ.set i x)
  | _, _, _, .nil => .nil
  | _, _, 0, .cons _ t => .cons r t
  | _, _, i + 1, .cons q t => .cons q (SlsOk.set r i t)
theorem SlsOk.get : ∀ {σ : L2.St} {δ : List Sl} {i : Nat} {x : Sl}, SlsOk K F σ δ → δ[i]? = some x → ∃ v, σ[i]? = some v ∧ SlOk K F v x
  | _, _, _, _, .nil, e => by simp at e
  | _, _, 0, _, .cons h _, e => by simp at e; subst e; exact ⟨_, rfl, h⟩
  | _, _, i + 1, x, .cons _ r, e => by
    obtain ⟨v, h1, h2⟩ := SlsOk.get (i := i) (x := x) r (by simpa using e)
    exact ⟨v, by simpa using h1, h2⟩
theorem FsOk.mono (e : Ex F F') : ∀ {vs : List (Str × V)} {fs : List (Str × Dt)}, FsOk K F vs fs → FsOk K F' vs fs
  | _, _, .nil => .nil
  | _, _, .cons h r => .cons ⟨h.1, h.2.mono e⟩ (FsOk.mono e r)
theorem SlOk.d_of {v : Option V} {x : Dt} (h : SlOk K F v (.d x)) : ∃ u, v = some u ∧ Rp K F u x := by
  cases v with
  | none => exact h.elim
  | some u => exact ⟨u, rfl, h⟩
theorem SlOk.v_of {v : Option V} {x : V} (h : SlOk K F v (.v x)) : v = some x := by
  cases v with
  | none => exact h.elim
  | some u =>
    have e : u = x := h
    rw [e]
theorem MOk.here {a : Addr} {m : M} (h : MOk K F H a m) : ∃ o, H a = some o ∧ (∀ ps, o ≠ .tbl ps) ∧ (∀ c q, o ≠ LamX.CodeO c q) ∧ Mut (some o) := by
  cases m with
  | lst ds =>
    obtain ⟨vs, e, _⟩ := h
    exact ⟨_, e, (fun _ z => nomatch z), (fun c q z => by unfold LamX.CodeO at z; cases z), trivial⟩
  | ins C fs =>
    obtain ⟨dx, vs, e, _⟩ := h
    exact ⟨_, e, (fun _ z => nomatch z), (fun c q z => by unfold LamX.CodeO at z; cases z), trivial⟩
/-- a frozen object more -/
theorem StOk.cold (S : StOk K T F H σ δ ω) (hp : H p = none) (no : ∀ ps, o ≠ .tbl ps) : StOk K T (upd F p o) (upd H p o) σ δ ω := by
  have fp : F p = none := S.ex.free hp
  have e1 : Ex F (upd F p o) := Ex.new fp
  refine ⟨fun a u e => ?_, fun a ps e => ?_, S.tb.ext (Ex.new hp), S.sl.mono e1, fun a m e => ?_⟩
  · by_cases h : a = p
    · rw [h, upd_same] at e
      rw [h, upd_same]
      exact e
    · rw [upd_ne h] at e
      rw [upd_ne h]
      exact S.ex _ _ e
  · by_cases h : a = p
    · rw [h, upd_same] at e
      exact no ps (Option.some.inj e)
    · rw [upd_ne h] at e
      exact S.nt _ _ e
  · obtain ⟨h1, h2⟩ := S.om a m e
    obtain ⟨u, hu, _⟩ := h2.here
    have hap : a ≠ p := ne_of_none hu hp
    refine ⟨by rw [upd_ne hap]; exact h1, ?_⟩
    cases m with
    | lst ds =>
      obtain ⟨vs, e, r⟩ := h2
      exact ⟨vs, by rw [upd_ne hap]; exact e, r.mono e1⟩
    | ins C fs =>
      obtain ⟨dx, vs, e, q, r⟩ := h2
      exact ⟨dx, vs, by rw [upd_ne hap]; exact e, e1 _ _ q, r.mono e1⟩
theorem StOk.cold_ex (S : StOk K T F H σ δ ω) (hp : H p = none) : Ex F (upd F p o) := Ex.new (S.ex.free hp)
/-- tables stand where an object that may be written changes -/
theorem tabs_mut {o' : HO} (t : LamX.Tabs T H) (hp : H p = some o) (h1 : ∀ ps, o ≠ .tbl ps) (h2 : ∀ c q, o ≠ LamX.CodeO c q) : LamX.Tabs T (upd H p o') := fun P hP => by
  obtain ⟨ps, e, t1, t2⟩ := t P hP
  refine ⟨ps, by rw [upd_ne (fun z => h1 ps (Option.some.inj (hp.symm.trans (by rw [← z]; exact e))))]; exact e, t1, fun pos cv hc => ?_⟩
  obtain ⟨c, e1, e2⟩ := t2 pos cv hc
  exact ⟨c, e1, by rw [upd_ne (fun z => h2 _ _ (Option.some.inj (hp.symm.trans (by rw [← z]; exact e2))))]; exact e2⟩
/-- what may change changes -/
theorem StOk.write {m m' : M} (S : StOk K T F H σ δ ω) (hm : ω p = some m) (new : MOk K F (upd H p o) p m') : StOk K T F (upd H p o) σ δ (ω.set p m') := by
  obtain ⟨fp, hk⟩ := S.om p m hm
  obtain ⟨u, hu, n1, n2, _⟩ := hk.here
  refine ⟨fun a x e => ?_, S.nt, tabs_mut S.tb hu n1 n2, S.sl, fun a m2 e => ?_⟩
  · have : a ≠ p := fun z => by
      rw [z, fp] at e
      cases e
    rw [upd_ne this]
    exact S.ex _ _ e
  · by_cases h : a = p
    · rw [h, Om.set_same] at e
      cases e
      rw [h]
      exact ⟨fp, new⟩
    · rw [Om.set_ne h] at e
      obtain ⟨h1, h2⟩ := S.om a m2 e
      refine ⟨h1, ?_⟩
      cases m2 with
      | lst ds =>
        obtain ⟨vs, e, r⟩ := h2
        exact ⟨vs, by rw [upd_ne h]; exact e, r⟩
      | ins C fs =>
        obtain ⟨dx, vs, e, q, r⟩ := h2
        exact ⟨dx, vs, by rw [upd_ne h]; exact e, q, r⟩
/-- a new object that may change -/
theorem StOk.warm {m' : M} (S : StOk K T F H σ δ ω) (hp : H p = none) (new : MOk K F (upd H p o) p m') : StOk K T F (upd H p o) σ δ (ω.set p m') := by
  have fp : F p = none := S.ex.free hp
  refine ⟨S.ex.trans (Ex.new hp), S.nt, S.tb.ext (Ex.new hp), S.sl, fun a m2 e => ?_⟩
  by_cases h : a = p
  · rw [h, Om.set_same] at e
    cases e
    rw [h]
    exact ⟨fp, new⟩
  · rw [Om.set_ne h] at e
    obtain ⟨h1, h2⟩ := S.om a m2 e
    refine ⟨h1, ?_⟩
    cases m2 with
    | lst ds =>
      obtain ⟨vs, e, r⟩ := h2
      exact ⟨vs, by rw [upd_ne h]; exact e, r⟩
    | ins C fs =>
      obtain ⟨dx, vs, e, q, r⟩ := h2
      exact ⟨dx, vs, by rw [upd_ne h]; exact e, q, r⟩
theorem StOk.notin (S : StOk K T F H σ δ ω) (hp : H p = none) : ω p = none := by
  cases e : ω p with
  | none => rfl
  | some m =>
    obtain ⟨_, h⟩ := S.om p m e
    obtain ⟨u, hu, _⟩ := h.here
    rw [hp] at hu
    cases hu
/-- a list that no longer changes -/
theorem StOk.freeze {ds : List Dt} (S : StOk K T F H σ δ ω) (hm : ω p = some (.lst ds)) : ∃ F', Ex F F' ∧ StOk K T F' H σ δ (ω.del p) ∧ Rp K F' (.ref p) (.lst ds) := by
  obtain ⟨fp, vs, hv, r⟩ := S.om p _ hm
  have e1 : Ex F (upd F p (.lst vs)) := Ex.new fp
  refine ⟨upd F p (.lst vs), e1, ⟨fun a u e => ?_, fun a ps e => ?_, S.tb, S.sl.mono e1, fun a m e => ?_⟩, .lst upd_same (r.mono e1)⟩
  · by_cases h : a = p
    · rw [h, upd_same] at e
      cases e
      rw [h]
      exact hv
    · rw [upd_ne h] at e
      exact S.ex _ _ e
  · by_cases h : a = p
    · rw [h, upd_same] at e
      cases e
    · rw [upd_ne h] at e
      exact S.nt _ _ e
  · by_cases h : a = p
    · rw [h, Om.del_same] at e
      cases e
    · rw [Om.del_ne h] at e
      obtain ⟨h1, h2⟩ := S.om a m e
      refine ⟨by rw [upd_ne h]; exact h1, ?_⟩
      cases m with
      | lst ds =>
        obtain ⟨vs, e, r⟩ := h2
        exact ⟨vs, e, r.mono e1⟩
      | ins C fs =>
        obtain ⟨dx, vs, e, q, r⟩ := h2
        exact ⟨dx, vs, e, e1 _ _ q, r.mono e1⟩
/-- less is known -/
theorem StOk.less (S : StOk K T F H σ δ ω) (h : ∀ a m, ω' a = some m → ω a = some m) : StOk K T F H σ δ ω' := ⟨S.ex, S.nt, S.tb, S.sl, fun a m e => S.om a m (h a m e)⟩
theorem StOk.slots (S : StOk K T F H σ δ ω) (h : SlsOk K F σ' δ') : StOk K T F H σ' δ' ω := ⟨S.ex, S.nt, S.tb, h, S.om⟩
end

/-! ### the judgements -/
section
variable (X : Cx) (T : List (Addr × Str))
/-- e gives r, ω becomes ω' -/
def PD (e : Expr) (δ : List Sl) (ω : Om) (r : Sl) (ω' : Om) : Prop := ∃ t : TE, PE X e t ∧ ∀ (σ : L2.St) (F H : Hp), StOk X.K T F H σ δ ω → ∀ Q : VK, (∀ v F' H', Ex F F' → StOk X.K T F' H' σ δ ω' → SlOk X.K F' (some v) r → Q v H') → t σ H Q
def PB (e : Expr) (δ : List Sl) (ω : Om) (b : Bool) (ω' : Om) : Prop := ∃ t : TT, PT X e t ∧ ∀ (σ : L2.St) (F H : Hp), StOk X.K T F H σ δ ω → ∀ Q : Bool → Hp → Prop, (∀ F' H', Ex F F' → StOk X.K T F' H' σ δ ω' → Q b H') → t σ H Q
def PL (es : List Expr) (δ : List Sl) (ω : Om) (rs : List Sl) (ω' : Om) : Prop := ∃ t : TA, PA X es t ∧ ∀ (σ : L2.St) (F H : Hp), StOk X.K T F H σ δ ω → ∀ Q : List V → Hp → Prop, (∀ vs F' H', Ex F F' → StOk X.K T F' H' σ δ ω' → SlsOk X.K F' (vs.map some) rs → Q vs H') → t σ H Q
end
section
variable {X : Cx} {T : List (Addr × Str)} {a b c e : Expr} {es : List Expr} {δ : List Sl} {ω ω1 ω2 ω3 : Om} {r : Sl} {pos : Pos}
theorem pd_var {i : Nat} {x : Str} (hi : δ[i]? = some r) (hN : X.N[i]? = some x) (hr : r ≠ .un) (ha : r ≠ .any) (hv : Vis X.env.scope x) (hd : (x == ("__debug__" : Str)) = false := by decide) (hcd : (x == ("__classdict__" : Str)) = false := by decide) :
    PD X T (.Name x pos) δ ω r ω := by
  refine ⟨_, pe_var hN hv hd hcd, fun σ F H S Q q => ?_⟩
  obtain ⟨v, h1, h2⟩ := S.sl.get hi
  cases v with
  | none =>
    cases r with
    | un => exact absurd rfl hr
    | any => exact absurd rfl ha
    | d x => exact h2.elim
    | v x => exact h2.elim
    | exn C => exact h2.elim
    | ro l => exact h2.elim
  | some v => exact ⟨v, h1, q v F H (Ex.refl F) S h2⟩
theorem pd_int {i : Int} {j} : PD X T (.Constant (.int i) j pos) δ ω (.d (.int i)) ω := ⟨_, pe_int, fun σ F H S Q q => q _ F H (Ex.refl F) S (Rp.int i)⟩
theorem pd_bl {i : Bool} {j} : PD X T (.Constant (.bool i) j pos) δ ω (.d (.bl i)) ω := ⟨_, pe_bl, fun σ F H S Q q => q _ F H (Ex.refl F) S (Rp.bl i)⟩
theorem pd_non {j} : PD X T (.Constant .none j pos) δ ω (.d .non) ω := ⟨_, pe_non, fun σ F H S Q q => q _ F H (Ex.refl F) S Rp.non⟩
theorem pd_str {x : Str} {j} : PD X T (.Constant (.str x) j pos) δ ω (.d (.str x)) ω := ⟨_, pe_str, fun σ F H S Q q => q _ F H (Ex.refl F) S (Rp.str x)⟩
theorem pl_nil : PL X T [] δ ω [] ω := ⟨_, pa_nil, fun σ F H S Q q => q [] F H (Ex.refl F) S .nil⟩
theorem pl_cons {rs : List Sl} (ha : PD X T e δ ω r ω1) (hr : PL X T es δ ω1 rs ω2) (hs : starEach (e :: es) X.env = (false, eval e X.env) :: starEach es X.env := by rfl) : PL X T (e :: es) δ ω (r :: rs) ω2 := by
  obtain ⟨t, h1, h2⟩ := ha
  obtain ⟨u, g1, g2⟩ := hr
  refine ⟨_, pa_cons h1 g1 hs, fun σ F H S Q q => ?_⟩
  refine h2 σ F H S _ fun v F1 H1 e1 S1 r1 => ?_
  refine g2 σ F1 H1 S1 _ fun vs F2 H2 e2 S2 r2 => ?_
  exact q (v :: vs) F2 H2 (e1.trans e2) S2 (.cons (r1.mono e2) r2)
/-- a two-place operation, by its rule on values -/
theorem pd_opR {op : Operator} {R : R2} {x y z : Sl} (ho : OpR X (binaryOp op) R) (ha : PD X T a δ ω x ω1) (hb : PD X T b δ ω1 y ω2)
    (hr : ∀ (σ : L2.St) (F H : Hp) (u v : V), StOk X.K T F H σ δ ω2 → SlOk X.K F (some u) x → SlOk X.K F (some v) y → ∀ Q : VK, (∀ w F' H', Ex F F' → StOk X.K T F' H' σ δ ω3 → SlOk X.K F' (some w) z → Q w H') → R u v H Q) :
    PD X T (.BinOp a op b pos) δ ω z ω3 := by
  obtain ⟨t, h1, h2⟩ := ha
  obtain ⟨u, g1, g2⟩ := hb
  refine ⟨_, pe_op ho h1 g1, fun σ F H S Q q => ?_⟩
  refine h2 σ F H S _ fun v F1 H1 e1 S1 r1 => ?_
  refine g2 σ F1 H1 S1 _ fun w F2 H2 e2 S2 r2 => ?_
  exact hr σ F2 H2 v w S2 (r1.mono e2) r2 Q fun w F' H' e3 S3 r3 => q w F' H' ((e1.trans e2).trans e3) S3 r3
/-- a comparison of two, as a value and as a test -/
def PCm (X : Cx) (T : List (Addr × Str)) (e : Expr) (δ : List Sl) (ω : Om) (z : Sl) (ω' : Om) : Prop := ∃ t : TE, PE X e t ∧ PT X e (tTest t) ∧ ∀ (σ : L2.St) (F H : Hp), StOk X.K T F H σ δ ω → ∀ Q : VK, (∀ v F' H', Ex F F' → StOk X.K T F' H' σ δ ω' → SlOk X.K F' (some v) z → Q v H') → t σ H Q
theorem m_R {op : CmpOp} {R : R2} {x y z : Sl} (ho : OpR X (compareOp op) R) (ha : PD X T a δ ω x ω1) (hb : PD X T b δ ω1 y ω2)
    (hr : ∀ (σ : L2.St) (F H : Hp) (u v : V), StOk X.K T F H σ δ ω2 → SlOk X.K F (some u) x → SlOk X.K F (some v) y → ∀ Q : VK, (∀ w F' H', Ex F F' → StOk X.K T F' H' σ δ ω3 → SlOk X.K F' (some w) z → Q w H') → R u v H Q)
    (hm : behindInMarks op b = false) : PCm X T (.Compare a [op] [b] pos) δ ω z ω3 := by
  obtain ⟨t, h1, h2⟩ := ha
  obtain ⟨u, g1, g2⟩ := hb
  refine ⟨_, pe_cmpR ho h1 g1 hm, pt_cmpR ho h1 g1 hm, fun σ F H S Q q => ?_⟩
  refine h2 σ F H S _ fun v F1 H1 e1 S1 r1 => ?_
  refine g2 σ F1 H1 S1 _ fun w F2 H2 e2 S2 r2 => ?_
  exact hr σ F2 H2 v w S2 (r1.mono e2) r2 Q fun w F' H' e3 S3 r3 => q w F' H' ((e1.trans e2).trans e3) S3 r3
theorem cv {z : Sl} (h : PCm X T e δ ω z ω1) : PD X T e δ ω z ω1 := by
  obtain ⟨t, h1, _, h2⟩ := h
  exact ⟨t, h1, h2⟩
theorem ct {k : Bool} (h : PCm X T e δ ω (.d (.bl k)) ω1) : PB X T e δ ω k ω1 := by
  obtain ⟨t, _, h1, h2⟩ := h
  refine ⟨_, h1, fun σ F H S Q q => ?_⟩
  refine h2 σ F H S _ fun v F1 H1 e1 S1 r1 => ?_
  have r1 : Rp X.K F1 v (.bl k) := r1
  cases r1
  exact ⟨k, rfl, q F1 H1 e1 S1⟩
end
end Fl
/-! Fl1: expressions over plain data. -/
namespace Fl
open PySem PySem.Spec PyProof.Rows L2
section
variable {X : Cx} {T : List (Addr × Str)} {a b c e : Expr} {es : List Expr} {δ : List Sl} {ω ω1 ω2 ω3 : Om} {r : Sl} {pos : Pos}

/-! ### ints -/
theorem pd_I {op : Operator} {C : Int → Int → Prop} {g : Int → Int → V} {i j : Int} {z : Dt} (ho : OpR X (binaryOp op) (rI C g)) (hg : ∀ F, Rp X.K F (g i j) z) (ha : PD X T a δ ω (.d (.int i)) ω1) (hb : PD X T b δ ω1 (.d (.int j)) ω2) (hc : C i j) :
    PD X T (.BinOp a op b pos) δ ω (.d z) ω2 :=
  pd_opR ho ha hb fun σ F H u v S ru rv Q q => by
    have ru : Rp X.K F u (.int i) := ru
    have rv : Rp X.K F v (.int j) := rv
    cases ru
    cases rv
    exact ⟨i, j, rfl, rfl, hc, q _ F H (Ex.refl F) S (hg F)⟩
theorem pd_I0 {op : Operator} {g : Int → Int → V} {i j : Int} {z : Dt} (ho : OpR X (binaryOp op) (rI0 g)) (hg : ∀ F, Rp X.K F (g i j) z) (ha : PD X T a δ ω (.d (.int i)) ω1) (hb : PD X T b δ ω1 (.d (.int j)) ω2) :
    PD X T (.BinOp a op b pos) δ ω (.d z) ω2 :=
  pd_opR ho ha hb fun σ F H u v S ru rv Q q => by
    have ru : Rp X.K F u (.int i) := ru
    have rv : Rp X.K F v (.int j) := rv
    cases ru
    cases rv
    exact ⟨i, j, rfl, rfl, q _ F H (Ex.refl F) S (hg F)⟩
theorem pd_add {i j : Int} (ha : PD X T a δ ω (.d (.int i)) ω1) (hb : PD X T b δ ω1 (.d (.int j)) ω2) : PD X T (.BinOp a .Add b pos) δ ω (.d (.int (i + j))) ω2 := pd_I0 op_add (fun _ => .int _) ha hb
theorem pd_sub {i j : Int} (ha : PD X T a δ ω (.d (.int i)) ω1) (hb : PD X T b δ ω1 (.d (.int j)) ω2) : PD X T (.BinOp a .Sub b pos) δ ω (.d (.int (i - j))) ω2 := pd_I0 op_sub (fun _ => .int _) ha hb
theorem pd_mul {i j : Int} (ha : PD X T a δ ω (.d (.int i)) ω1) (hb : PD X T b δ ω1 (.d (.int j)) ω2) (hc : CMulW i j) : PD X T (.BinOp a .Mult b pos) δ ω (.d (.int (i * j))) ω2 := pd_I op_mulW (fun _ => .int _) ha hb hc
theorem pd_mod {i j : Int} (ha : PD X T a δ ω (.d (.int i)) ω1) (hb : PD X T b δ ω1 (.d (.int j)) ω2) (hc : 0 < j) : PD X T (.BinOp a .Mod b pos) δ ω (.d (.int (i % j))) ω2 := pd_I op_mod (fun _ => .int _) ha hb hc
theorem pd_div {i j : Int} (ha : PD X T a δ ω (.d (.int i)) ω1) (hb : PD X T b δ ω1 (.d (.int j)) ω2) (hc : CDivW i j) : PD X T (.BinOp a .FloorDiv b pos) δ ω (.d (.int (i / j))) ω2 := pd_I op_fdivW (fun _ => .int _) ha hb hc
/-- a power of any size below a million bits -/
def CPowW (i j : Int) : Prop := 0 ≤ j ∧ ((Builtin.Int.intBits i : Nat) : Int) * j ≤ 2 ^ 27
theorem op_powW : OpR X (binaryOp .Pow) (rI CPowW fun i j => .int (i ^ j.toNat)) := opI fun i j _ _ _ _ _ hc q => pow_int hc.1 hc.2 q
theorem pd_pow {i j : Int} (ha : PD X T a δ ω (.d (.int i)) ω1) (hb : PD X T b δ ω1 (.d (.int j)) ω2) (hc : CPowW i j) : PD X T (.BinOp a .Pow b pos) δ ω (.d (.int (i ^ j.toNat))) ω2 := pd_I op_powW (fun _ => .int _) ha hb hc
theorem pd_neg {i : Int} (ha : PD X T a δ ω (.d (.int i)) ω1) : PD X T (.UnaryOp .USub a pos) δ ω (.d (.int (-i))) ω1 := by
  obtain ⟨t, h1, h2⟩ := ha
  refine ⟨_, pe_un un_neg h1, fun σ F H S Q q => ?_⟩
  refine h2 σ F H S _ fun v F1 H1 e1 S1 r1 => ?_
  have r1 : Rp X.K F1 v (.int i) := r1
  cases r1
  exact ⟨i, rfl, q _ F1 H1 e1 S1 (.int _)⟩

/-! ### comparisons -/
theorem m_C0 {op : CmpOp} {g : Int → Int → V} {i j : Int} {z : Dt} (ho : OpR X (compareOp op) (rI0 g)) (hg : ∀ F, Rp X.K F (g i j) z) (ha : PD X T a δ ω (.d (.int i)) ω1) (hb : PD X T b δ ω1 (.d (.int j)) ω2) (hm : behindInMarks op b = false) :
    PCm X T (.Compare a [op] [b] pos) δ ω (.d z) ω2 :=
  m_R ho ha hb (fun σ F H u v S ru rv Q q => by
    have ru : Rp X.K F u (.int i) := ru
    have rv : Rp X.K F v (.int j) := rv
    cases ru
    cases rv
    exact ⟨i, j, rfl, rfl, q _ F H (Ex.refl F) S (hg F)⟩) hm
theorem m_lt {i j : Int} (ha : PD X T a δ ω (.d (.int i)) ω1) (hb : PD X T b δ ω1 (.d (.int j)) ω2) : PCm X T (.Compare a [.Lt] [b] pos) δ ω (.d (.bl (decide (i < j)))) ω2 := m_C0 op_lt (fun _ => .bl _) ha hb (nomark _)
theorem m_le {i j : Int} (ha : PD X T a δ ω (.d (.int i)) ω1) (hb : PD X T b δ ω1 (.d (.int j)) ω2) : PCm X T (.Compare a [.LtE] [b] pos) δ ω (.d (.bl (decide (i ≤ j)))) ω2 := m_C0 op_le (fun _ => .bl _) ha hb (nomark _)
theorem m_gt {i j : Int} (ha : PD X T a δ ω (.d (.int i)) ω1) (hb : PD X T b δ ω1 (.d (.int j)) ω2) : PCm X T (.Compare a [.Gt] [b] pos) δ ω (.d (.bl (decide (j < i)))) ω2 := m_C0 op_gt (fun _ => .bl _) ha hb (nomark _)
theorem m_ge {i j : Int} (ha : PD X T a δ ω (.d (.int i)) ω1) (hb : PD X T b δ ω1 (.d (.int j)) ω2) : PCm X T (.Compare a [.GtE] [b] pos) δ ω (.d (.bl (decide (j ≤ i)))) ω2 := m_C0 op_ge (fun _ => .bl _) ha hb (nomark _)

/-- no value that is told here is None but None -/
def Dt.isN : Dt → Bool
  | .non => true
  | _ => false
theorem Rp.isN {K : PySem.W.Frag} {F : Hp} {v : V} {x : Dt} (h : Rp K F v x) : decide (v = .non) = x.isN := by
  cases h <;> rfl
def Sl.isN : Sl → Bool
  | .d x => x.isN
  | .v x => decide (x = .non)
  | _ => false
theorem SlOk.isN {K : PySem.W.Frag} {F : Hp} {v : V} {x : Sl} (h : SlOk K F (some v) x) (ha : x ≠ .any) : decide (v = .non) = x.isN := by
  cases x with
  | un => exact h.elim
  | any => exact absurd rfl ha
  | d x => exact Rp.isN h
  | v x =>
    have e : v = x := h
    rw [e]
    rfl
  | exn C =>
    obtain ⟨a, rfl, _⟩ := h
    rfl
  | ro l =>
    obtain ⟨a, xs, rfl, _⟩ := h
    rfl
theorem m_isN {x : Sl} {j p2} (ha : PD X T a δ ω x ω1) (hx : x ≠ .any) : PCm X T (.Compare a [.Is] [.Constant .none j p2] pos) δ ω (.d (.bl x.isN)) ω1 :=
  m_R op_isN ha pd_non (fun σ F H u v S ru rv Q q => by
    have rv : Rp X.K F v .non := rv
    cases rv
    exact ⟨rfl, q _ F H (Ex.refl F) S (by rw [ru.isN hx]; exact Rp.bl _)⟩) (nomark _)
theorem m_notN {x : Sl} {j p2} (ha : PD X T a δ ω x ω1) (hx : x ≠ .any) : PCm X T (.Compare a [.IsNot] [.Constant .none j p2] pos) δ ω (.d (.bl (!x.isN))) ω1 :=
  m_R op_notN ha pd_non (fun σ F H u v S ru rv Q q => by
    have rv : Rp X.K F v .non := rv
    cases rv
    exact ⟨rfl, q _ F H (Ex.refl F) S (by rw [ru.isN hx]; exact Rp.bl _)⟩) (nomark _)

/-! ### == of data -/
mutual
def Dt.py : Dt → PyData
  | .non => .none
  | .bl b => .bool b
  | .int i => .int i
  | .str s => .str s
  | .lst l => .list (Dt.pyL l)
  | .tup l => .tuple (Dt.pyL l)
  | .emp => .none
def Dt.pyL : List Dt → List PyData
  | [] => []
  | d :: l => d.py :: Dt.pyL l
end
mutual
/-- no dict within -/
def Dt.plain : Dt → Bool
  | .emp => false
  | .lst l => Dt.plainL l
  | .tup l => Dt.plainL l
  | _ => true
def Dt.plainL : List Dt → Bool
  | [] => true
  | d :: l => d.plain && Dt.plainL l
end
mutual
theorem Rp.dp {K : PySem.W.Frag} {F : Hp} : ∀ {v : V} {x : Dt}, Rp K F v x → x.plain = true → Dp K F v x.py
  | _, _, .non, _ => .non
  | _, _, .bl b, _ => .bl b
  | _, _, .int i, _ => .int i
  | _, _, .str s, _ => .str s
  | _, _, .lst h r, p => .lst (SqL.of h) (RpL.dp r p)
  | _, _, .tup h r, p => .tup (SqT.of h) (RpL.dp r p)
  | _, _, .emp _, p => nomatch p
theorem RpL.dp {K : PySem.W.Frag} {F : Hp} : ∀ {vs : List V} {xs : List Dt}, RpL K F vs xs → Dt.plainL xs = true → DpAll K F vs (Dt.pyL xs)
  | _, _, .nil, _ => .nil
  | _, _, .cons h r, p => .cons (Rp.dp h (Bool.and_eq_true_iff.mp p).1) (RpL.dp r (Bool.and_eq_true_iff.mp p).2)
end
mutual
theorem dp_mono {K : PySem.W.Frag} {F F' : Hp} (e : Ex F F') : ∀ {v : V} {x : PyData}, Dp K F v x → Dp K F' v x
  | _, _, .non => .non
  | _, _, .bl b => .bl b
  | _, _, .int i => .int i
  | _, _, .str s => .str s
  | _, _, .lst h r => .lst (e.sqL h) (dpL_mono e r)
  | _, _, .tup h r => .tup (e.sqT h) (dpL_mono e r)
theorem dpL_mono {K : PySem.W.Frag} {F F' : Hp} (e : Ex F F') : ∀ {vs : List V} {xs : List PyData}, DpAll K F vs xs → DpAll K F' vs xs
  | _, _, .nil => .nil
  | _, _, .cons h r => .cons (dp_mono e h) (dpL_mono e r)
end
/-- what == may be asked of -/
structure Eqs (x : Dt) : Prop where
  pl : x.plain = true
  sh : SeqAt.shaped x.py = true
def Dt.eqv (x y : Dt) : Bool := PyData.eqv x.py y.py
theorem m_eq {x y : Dt} (hu : X.A.units + 64 < cLine) (ha : PD X T a δ ω (.d x) ω1) (hb : PD X T b δ ω1 (.d y) ω2) (hx : Eqs x) (hy : Eqs y) : PCm X T (.Compare a [.Eq] [b] pos) δ ω (.d (.bl (x.eqv y))) ω2 :=
  m_R (op_eqD hu) ha hb (fun σ F H u v S ru rv Q q => ⟨_, _, dp_mono S.ex (Rp.dp ru hx.pl), dp_mono S.ex (Rp.dp rv hy.pl), hx.sh, hy.sh, q _ F H (Ex.refl F) S (Rp.bl _)⟩) (nomark _)
theorem m_ne {x y : Dt} (hu : X.A.units + 64 < cLine) (ha : PD X T a δ ω (.d x) ω1) (hb : PD X T b δ ω1 (.d y) ω2) (hx : Eqs x) (hy : Eqs y) : PCm X T (.Compare a [.NotEq] [b] pos) δ ω (.d (.bl (!x.eqv y))) ω2 :=
  m_R (op_neD hu) ha hb (fun σ F H u v S ru rv Q q => ⟨_, _, dp_mono S.ex (Rp.dp ru hx.pl), dp_mono S.ex (Rp.dp rv hy.pl), hx.sh, hy.sh, q _ F H (Ex.refl F) S (Rp.bl _)⟩) (nomark _)

/-! ### tests -/
theorem pb_val {k : Bool} (ha : PD X T e δ ω (.d (.bl k)) ω1) (he : ∀ whole, isTrue e X.env whole = (do let v ← whole; standAt e.pos; holding [v] (truthy v)) := by intro _; rfl) : PB X T e δ ω k ω1 := by
  obtain ⟨t, h1, h2⟩ := ha
  refine ⟨_, pt_val h1 he, fun σ F H S Q q => ?_⟩
  refine h2 σ F H S _ fun v F1 H1 e1 S1 r1 => ?_
  have r1 : Rp X.K F1 v (.bl k) := r1
  cases r1
  exact ⟨k, rfl, q F1 H1 e1 S1⟩
/-- truth by value -/
def Dt.tru : Dt → Bool
  | .non => false
  | .bl b => b
  | .int i => i != 0
  | .str s => (s.length : Int) != 0
  | .lst l => !l.isEmpty
  | .tup l => !l.isEmpty
  | .emp => false
def Dt.truOk : Dt → Prop
  | .str s => s.length ≤ sizeLine
  | _ => True
theorem Rp.tru {K : PySem.W.Frag} {F H : Hp} (e : Ex F H) {v : V} {x : Dt} (h : Rp K F v x) (ok : x.truOk) : TruV K v H x.tru := by
  cases h with
  | non => rfl
  | bl b => rfl
  | int i => rfl
  | str s => exact ⟨ok, rfl⟩
  | lst h r =>
    refine .inl ⟨_, SqL.of (e _ _ h), ?_⟩
    cases r <;> rfl
  | tup h r =>
    refine .inr (.inl ⟨_, SqT.of (e _ _ h), ?_⟩)
    cases r <;> rfl
  | emp h => exact .inr (.inr ⟨_, e _ _ h, rfl⟩)
theorem pb_tru {x : Dt} (ha : PD X T e δ ω (.d x) ω1) (ok : x.truOk) (he : ∀ whole, isTrue e X.env whole = (do let v ← whole; standAt e.pos; holding [v] (truthy v)) := by intro _; rfl) : PB X T e δ ω x.tru ω1 := by
  obtain ⟨t, h1, h2⟩ := ha
  refine ⟨_, pt_truth h1 he, fun σ F H S Q q => ?_⟩
  refine h2 σ F H S _ fun v F1 H1 e1 S1 r1 => ?_
  exact ⟨_, Rp.tru S1.ex r1 ok, q F1 H1 e1 S1⟩
theorem pb_not {k : Bool} (ha : PB X T a δ ω k ω1) : PB X T (.UnaryOp .Not a pos) δ ω (!k) ω1 := by
  obtain ⟨t, h1, h2⟩ := ha
  exact ⟨_, pt_not h1, fun σ F H S Q q => h2 σ F H S _ fun F1 H1 e1 S1 => q F1 H1 e1 S1⟩
/-- a chain of and, of or -/
def PBW (X : Cx) (T : List (Addr × Str)) (e : Expr) (δ : List Sl) (ω : Om) (b : Bool) (ω' : Om) : Prop := ∃ t : TT, PW X e t ∧ ∀ (σ : L2.St) (F H : Hp), StOk X.K T F H σ δ ω → ∀ Q : Bool → Hp → Prop, (∀ F' H', Ex F F' → StOk X.K T F' H' σ δ ω' → Q b H') → t σ H Q
theorem pb_w {k : Bool} (h : PBW X T e δ ω k ω1) : PB X T e δ ω k ω1 := by
  obtain ⟨t, h1, h2⟩ := h
  exact ⟨t, h1.pt, h2⟩
theorem wa1 {k : Bool} (h : PB X T a δ ω k ω1) : PBW X T (.BoolOp .And [a] pos) δ ω k ω1 := by
  obtain ⟨t, h1, h2⟩ := h
  exact ⟨t, L2.pw_and1 h1, h2⟩
theorem wo1 {k : Bool} (h : PB X T a δ ω k ω1) : PBW X T (.BoolOp .Or [a] pos) δ ω k ω1 := by
  obtain ⟨t, h1, h2⟩ := h
  exact ⟨t, L2.pw_or1 h1, h2⟩
theorem pe_nev : PE X e (fun _ _ _ => False) := ⟨fun _ _ _ _ _ _ h => h.elim⟩
theorem pt_nev : PT X e (fun _ _ _ => False) := ⟨fun _ _ _ _ _ _ h => h.elim⟩
theorem pw_nev : PW X e (fun _ _ _ => False) := ⟨fun _ _ _ _ _ _ _ h => h.elim⟩
theorem pa_nev : PA X es (fun _ _ _ => False) := ⟨fun _ _ _ _ _ _ _ h => h.elim⟩
theorem ss_nev {sts : List Stmt} : PSs X sts (fun _ _ _ => False) := ⟨fun _ _ _ _ _ _ h => h.elim⟩
theorem wa {k m : Bool} (ha : PB X T a δ ω k ω1) (hb : k = true → PBW X T (.BoolOp .And (b :: es) pos) δ ω1 m ω1) : PBW X T (.BoolOp .And (a :: b :: es) pos) δ ω (k && m) ω1 := by
  obtain ⟨t, h1, h2⟩ := ha
  cases k with
  | true =>
    obtain ⟨u, g1, g2⟩ := hb rfl
    refine ⟨_, L2.pw_and h1 g1, fun σ F H S Q q => ?_⟩
    refine h2 σ F H S _ fun F1 H1 e1 S1 => ?_
    show (if true = true then _ else _)
    rw [if_pos rfl]
    exact g2 σ F1 H1 S1 Q fun F2 H2 e2 S2 => q F2 H2 (e1.trans e2) S2
  | false =>
    refine ⟨_, L2.pw_and h1 pw_nev, fun σ F H S Q q => ?_⟩
    refine h2 σ F H S _ fun F1 H1 e1 S1 => ?_
    show (if false = true then _ else _)
    rw [if_neg Bool.false_ne_true]
    exact q F1 H1 e1 S1
theorem wo {k m : Bool} (ha : PB X T a δ ω k ω1) (hb : k = false → PBW X T (.BoolOp .Or (b :: es) pos) δ ω1 m ω1) : PBW X T (.BoolOp .Or (a :: b :: es) pos) δ ω (k || m) ω1 := by
  obtain ⟨t, h1, h2⟩ := ha
  cases k with
  | false =>
    obtain ⟨u, g1, g2⟩ := hb rfl
    refine ⟨_, L2.pw_or h1 g1, fun σ F H S Q q => ?_⟩
    refine h2 σ F H S _ fun F1 H1 e1 S1 => ?_
    show (if false = true then _ else _)
    rw [if_neg Bool.false_ne_true]
    exact g2 σ F1 H1 S1 Q fun F2 H2 e2 S2 => q F2 H2 (e1.trans e2) S2
  | true =>
    refine ⟨_, L2.pw_or h1 pw_nev, fun σ F H S Q q => ?_⟩
    refine h2 σ F H S _ fun F1 H1 e1 S1 => ?_
    show (if true = true then _ else _)
    rw [if_pos rfl]
    exact q F1 H1 e1 S1
/-! ### and, or, not of truth values, as values -/
theorem pd_one {op} (h : PD X T a δ ω r ω1) : PD X T (.BoolOp op [a] pos) δ ω r ω1 := by
  obtain ⟨t, h1, h2⟩ := h
  exact ⟨t, pe_one h1, h2⟩
theorem pd_and {k m : Bool} (ha : PD X T a δ ω (.d (.bl k)) ω1) (hb : k = true → PD X T (.BoolOp .And (b :: es) pos) δ ω1 (.d (.bl m)) ω1) : PD X T (.BoolOp .And (a :: b :: es) pos) δ ω (.d (.bl (k && m))) ω1 := by
  obtain ⟨t, h1, h2⟩ := ha
  cases k with
  | true =>
    obtain ⟨u, g1, g2⟩ := hb rfl
    refine ⟨_, pe_and h1 g1, fun σ F H S Q q => ?_⟩
    refine h2 σ F H S _ fun v F1 H1 e1 S1 r1 => ?_
    have r1 : Rp X.K F1 v (.bl true) := r1
    cases r1
    refine ⟨true, rfl, ?_⟩
    rw [if_pos rfl]
    exact g2 σ F1 H1 S1 Q fun v F2 H2 e2 S2 r2 => q v F2 H2 (e1.trans e2) S2 r2
  | false =>
    refine ⟨_, pe_and h1 pe_nev, fun σ F H S Q q => ?_⟩
    refine h2 σ F H S _ fun v F1 H1 e1 S1 r1 => ?_
    have r1 : Rp X.K F1 v (.bl false) := r1
    cases r1
    refine ⟨false, rfl, ?_⟩
    rw [if_neg Bool.false_ne_true]
    exact q _ F1 H1 e1 S1 (Rp.bl _)
theorem pd_or {k m : Bool} (ha : PD X T a δ ω (.d (.bl k)) ω1) (hb : k = false → PD X T (.BoolOp .Or (b :: es) pos) δ ω1 (.d (.bl m)) ω1) : PD X T (.BoolOp .Or (a :: b :: es) pos) δ ω (.d (.bl (k || m))) ω1 := by
  obtain ⟨t, h1, h2⟩ := ha
  cases k with
  | false =>
    obtain ⟨u, g1, g2⟩ := hb rfl
    refine ⟨_, pe_or h1 g1, fun σ F H S Q q => ?_⟩
    refine h2 σ F H S _ fun v F1 H1 e1 S1 r1 => ?_
    have r1 : Rp X.K F1 v (.bl false) := r1
    cases r1
    refine ⟨false, rfl, ?_⟩
    rw [if_neg Bool.false_ne_true]
    exact g2 σ F1 H1 S1 Q fun v F2 H2 e2 S2 r2 => q v F2 H2 (e1.trans e2) S2 r2
  | true =>
    refine ⟨_, pe_or h1 pe_nev, fun σ F H S Q q => ?_⟩
    refine h2 σ F H S _ fun v F1 H1 e1 S1 r1 => ?_
    have r1 : Rp X.K F1 v (.bl true) := r1
    cases r1
    refine ⟨true, rfl, ?_⟩
    rw [if_pos rfl]
    exact q _ F1 H1 e1 S1 (Rp.bl _)
theorem pd_not {k : Bool} (ha : PD X T a δ ω (.d (.bl k)) ω1) : PD X T (.UnaryOp .Not a pos) δ ω (.d (.bl (!k))) ω1 := by
  obtain ⟨t, h1, h2⟩ := ha
  refine ⟨_, pe_not h1, fun σ F H S Q q => ?_⟩
  refine h2 σ F H S _ fun v F1 H1 e1 S1 r1 => ?_
  have r1 : Rp X.K F1 v (.bl k) := r1
  cases r1
  exact ⟨k, rfl, q _ F1 H1 e1 S1 (Rp.bl _)⟩
/-- a if t else b -/
theorem pd_if {k : Bool} (hc : PB X T c δ ω k ω1) (ha : k = true → PD X T a δ ω1 r ω2) (hb : k = false → PD X T b δ ω1 r ω2) : PD X T (.IfExp c a b pos) δ ω r ω2 := by
  obtain ⟨t, h1, h2⟩ := hc
  cases k with
  | true =>
    obtain ⟨u, g1, g2⟩ := ha rfl
    refine ⟨_, pe_ifExp h1 g1 pe_nev, fun σ F H S Q q => ?_⟩
    refine h2 σ F H S _ fun F1 H1 e1 S1 => ?_
    show (if true = true then _ else _)
    rw [if_pos rfl]
    exact g2 σ F1 H1 S1 Q fun v F2 H2 e2 S2 r2 => q v F2 H2 (e1.trans e2) S2 r2
  | false =>
    obtain ⟨u, g1, g2⟩ := hb rfl
    refine ⟨_, pe_ifExp h1 pe_nev g1, fun σ F H S Q q => ?_⟩
    refine h2 σ F H S _ fun F1 H1 e1 S1 => ?_
    show (if false = true then _ else _)
    rw [if_neg Bool.false_ne_true]
    exact g2 σ F1 H1 S1 Q fun v F2 H2 e2 S2 r2 => q v F2 H2 (e1.trans e2) S2 r2

/-! ### displays, places -/
theorem RpL.of_sls {K : PySem.W.Frag} {F : Hp} : ∀ {vs : List V} {ds : List Dt}, SlsOk K F (vs.map some) (ds.map Sl.d) → RpL K F vs ds
  | [], [], _ => .nil
  | _ :: _, _ :: _, .cons h r => .cons h (RpL.of_sls r)
  | [], _ :: _, h => nomatch h
  | _ :: _, [], h => nomatch h
theorem pd_tup {ds : List Dt} {k} (h : PL X T es δ ω (ds.map Sl.d) ω1) (hs : ds.length ≤ sizeLine) : PD X T (.Tuple es k pos) δ ω (.d (.tup ds)) ω1 := by
  obtain ⟨t, h1, h2⟩ := h
  refine ⟨_, pe_tup h1, fun σ F H S Q q => ?_⟩
  refine h2 σ F H S _ fun vs F1 H1 e1 S1 r1 => ?_
  have r := RpL.of_sls r1
  refine ⟨by rw [r.length]; exact hs, fun p hp => ?_⟩
  exact q _ _ _ (e1.trans (S1.cold_ex hp)) (S1.cold hp (fun _ z => nomatch z)) (Rp.tup upd_same (r.mono (S1.cold_ex hp)))
theorem pd_lst {ds : List Dt} (h : PL X T es δ ω (ds.map Sl.d) ω1) (hs : ds.length ≤ sizeLine) : PD X T (.List es pos) δ ω (.d (.lst ds)) ω1 := by
  obtain ⟨t, h1, h2⟩ := h
  refine ⟨_, pe_lst h1, fun σ F H S Q q => ?_⟩
  refine h2 σ F H S _ fun vs F1 H1 e1 S1 r1 => ?_
  have r := RpL.of_sls r1
  refine ⟨by rw [r.length]; exact hs, fun p hp => ?_⟩
  exact q _ _ _ (e1.trans (S1.cold_ex hp)) (S1.cold hp (fun _ z => nomatch z)) (Rp.lst upd_same (r.mono (S1.cold_ex hp)))
theorem pd_emp : PD X T (.Dict [] [] pos) δ ω (.d .emp) ω := ⟨_, pe_dnewK, fun σ F H S Q q => fun d hd => q _ _ _ (S.cold_ex hd) (S.cold hd (fun _ z => nomatch z)) (Rp.emp upd_same)⟩
theorem RpL.at {K : PySem.W.Frag} {F : Hp} {vs : List V} {ds : List Dt} {i : Int} {d : Dt} (r : RpL K F vs ds) (h : atI ds i = some d) : ∃ v, atI vs i = some v ∧ Rp K F v d := by
  unfold atI at h ⊢
  rw [r.length]
  cases e : ixN ds.length i with
  | none =>
    rw [e] at h
    cases h
  | some j =>
    rw [e] at h
    exact r.get h
theorem pd_ixL {ds : List Dt} {i : Int} {d : Dt} (ha : PD X T a δ ω (.d (.lst ds)) ω1) (hb : PD X T b δ ω1 (.d (.int i)) ω2) (h : atI ds i = some d) (hs : PlainIx b := by exact fun _ _ => rfl) : PD X T (.Subscript a b pos) δ ω (.d d) ω2 := by
  obtain ⟨t, h1, h2⟩ := ha
  obtain ⟨u, g1, g2⟩ := hb
  refine ⟨_, pe_ix ix_list h1 g1 hs, fun σ F H S Q q => ?_⟩
  refine h2 σ F H S _ fun v F1 H1 e1 S1 r1 => ?_
  refine g2 σ F1 H1 S1 _ fun w F2 H2 e2 S2 r2 => ?_
  have r1 : Rp X.K F2 v (.lst ds) := r1.mono e2
  have r2 : Rp X.K F2 w (.int i) := r2
  cases r2
  cases r1 with
  | lst z r =>
    obtain ⟨y, hy, ry⟩ := r.at h
    exact ⟨_, _, i, y, rfl, rfl, SqL.of (S2.ex _ _ z), hy, q _ F2 H2 (e1.trans e2) S2 ry⟩
theorem pd_ixT {ds : List Dt} {i : Int} {d : Dt} (ha : PD X T a δ ω (.d (.tup ds)) ω1) (hb : PD X T b δ ω1 (.d (.int i)) ω2) (h : atI ds i = some d) (hs : PlainIx b := by exact fun _ _ => rfl) : PD X T (.Subscript a b pos) δ ω (.d d) ω2 := by
  obtain ⟨t, h1, h2⟩ := ha
  obtain ⟨u, g1, g2⟩ := hb
  refine ⟨_, pe_ix ix_tup h1 g1 hs, fun σ F H S Q q => ?_⟩
  refine h2 σ F H S _ fun v F1 H1 e1 S1 r1 => ?_
  refine g2 σ F1 H1 S1 _ fun w F2 H2 e2 S2 r2 => ?_
  have r1 : Rp X.K F2 v (.tup ds) := r1.mono e2
  have r2 : Rp X.K F2 w (.int i) := r2
  cases r2
  cases r1 with
  | tup z r =>
    obtain ⟨y, hy, ry⟩ := r.at h
    exact ⟨_, _, i, y, rfl, rfl, SqT.of (S2.ex _ _ z), hy, q _ F2 H2 (e1.trans e2) S2 ry⟩
end
end Fl
/-! Fl2: statements, defs and their calls over plain data. -/
namespace Fl
open PySem PySem.Spec PyProof.Rows L2

/-- what is wanted behind statements; xc: of an exception of the class at C -/
structure Wt where
  nx : List Sl → Om → Prop := fun _ _ => False
  rt : Sl → Om → Prop := fun _ _ => False
  bk : List Sl → Om → Prop := fun _ _ => False
  ct : List Sl → Om → Prop := fun _ _ => False
  xc : Addr → Om → Prop := fun _ _ => False

/-- D and XW give what R wants -/
structure Sat (K : PySem.W.Frag) (T : List (Addr × Str)) (F : Hp) (XW : WX) (D : Ends) (R : Wt) : Prop where
  nx : ∀ σ F' H δ ω, Ex F F' → StOk K T F' H σ δ ω → R.nx δ ω → D.nx σ H
  rt : ∀ v σ F' H r δ ω, Ex F F' → StOk K T F' H σ δ ω → SlOk K F' (some v) r → R.rt r ω → D.rt v H
  bk : ∀ σ F' H δ ω, Ex F F' → StOk K T F' H σ δ ω → R.bk δ ω → D.bk σ H
  ct : ∀ σ F' H δ ω, Ex F F' → StOk K T F' H σ δ ω → R.ct δ ω → D.ct σ H
  xc : ∀ C σ F' H δ ω, Ex F F' → StOk K T F' H σ δ ω → R.xc C ω → XW (.ref C) none σ H
theorem Sat.mono {K : PySem.W.Frag} {T : List (Addr × Str)} {F F1 : Hp} {XW : WX} {D : Ends} {R : Wt} (s : Sat K T F XW D R) (e : Ex F F1) : Sat K T F1 XW D R :=
  ⟨fun σ F' H δ ω e1 => s.nx σ F' H δ ω (e.trans e1), fun v σ F' H r δ ω e1 => s.rt v σ F' H r δ ω (e.trans e1), fun σ F' H δ ω e1 => s.bk σ F' H δ ω (e.trans e1), fun σ F' H δ ω e1 => s.ct σ F' H δ ω (e.trans e1), fun C σ F' H δ ω e1 => s.xc C σ F' H δ ω (e.trans e1)⟩

/-- the widest readings -/
def allE (X : Cx) (e : Expr) : TE := fun σ H Q => ∃ u, PE X e u ∧ u σ H Q
def allS (X : Cx) (sts : List Stmt) : TS := fun D σ H => ∃ u, PSs X sts u ∧ u D σ H
def all1 (X : Cx) (st : Stmt) : TS := fun D σ H => ∃ u, PS X st u ∧ u D σ H
theorem pe_all {X : Cx} {e : Expr} : PE X e (allE X e) := ⟨fun pins s σ H Q I ⟨_, h, q⟩ => h.run pins s σ H Q I q⟩
theorem ss_all {X : Cx} {sts : List Stmt} : PSs X sts (allS X sts) := ⟨fun pins s σ H D I ⟨_, h, q⟩ => h.run pins s σ H D I q⟩
theorem s1_all {X : Cx} {st : Stmt} : PS X st (all1 X st) := ⟨fun pins s σ H D I ⟨_, h, q⟩ => h.run pins s σ H D I q⟩

section
variable (X : Cx) (T : List (Addr × Str)) (XW : WX)
/-- an expression that may raise, and whose value may be one of many -/
def PX (e : Expr) (δ : List Sl) (ω : Om) (R : Sl → Om → Prop) (RX : Addr → Om → Prop) : Prop := ∀ (σ : L2.St) (F H : Hp), StOk X.K T F H σ δ ω → ∀ Q : VK,
  (∀ v F' H' r ω', Ex F F' → StOk X.K T F' H' σ δ ω' → SlOk X.K F' (some v) r → R r ω' → Q v H') → (∀ C F' H' ω', Ex F F' → StOk X.K T F' H' σ δ ω' → RX C ω' → XW (.ref C) none σ H') → allE X e σ H Q
def S1 (st : Stmt) (δ : List Sl) (ω : Om) (R : Wt) : Prop := ∀ (σ : L2.St) (F H : Hp) (D : Ends), StOk X.K T F H σ δ ω → Sat X.K T F XW D R → all1 X st D σ H
def SD (sts : List Stmt) (δ : List Sl) (ω : Om) (R : Wt) : Prop := ∀ (σ : L2.St) (F H : Hp) (D : Ends), StOk X.K T F H σ δ ω → Sat X.K T F XW D R → allS X sts D σ H
end
section
variable {X : Cx} {T : List (Addr × Str)} {XW : WX} {a b c e : Expr} {es : List Expr} {δ δ' : List Sl} {ω ω1 ω2 ω3 : Om} {r : Sl} {pos : Pos} {R R' : Wt} {P : Sl → Om → Prop} {RX : Addr → Om → Prop} {st : Stmt} {sts : List Stmt}
theorem PD.px (h : PD X T e δ ω r ω1) (q : P r ω1) : PX X T XW e δ ω P RX := by
  obtain ⟨t, h1, h2⟩ := h
  intro σ F H S Q k _
  exact ⟨t, h1, h2 σ F H S Q fun v F' H' e1 S1 r1 => k v F' H' r ω1 e1 S1 r1 q⟩
/-- less wanted -/
theorem SD.imp (h : SD X T XW sts δ ω R) (nx : ∀ δ ω, R.nx δ ω → R'.nx δ ω) (rt : ∀ r ω, R.rt r ω → R'.rt r ω) (bk : ∀ δ ω, R.bk δ ω → R'.bk δ ω) (ct : ∀ δ ω, R.ct δ ω → R'.ct δ ω) (xc : ∀ C ω, R.xc C ω → R'.xc C ω) : SD X T XW sts δ ω R' :=
  fun σ F H D S s => h σ F H D S ⟨fun σ F' H δ ω e S q => s.nx σ F' H δ ω e S (nx _ _ q), fun v σ F' H r δ ω e S z q => s.rt v σ F' H r δ ω e S z (rt _ _ q), fun σ F' H δ ω e S q => s.bk σ F' H δ ω e S (bk _ _ q), fun σ F' H δ ω e S q => s.ct σ F' H δ ω e S (ct _ _ q), fun C σ F' H δ ω e S q => s.xc C σ F' H δ ω e S (xc _ _ q)⟩
theorem ss_nil (h : R.nx δ ω) : SD X T XW [] δ ω R := fun σ F H D S s => ⟨_, pss_nil, s.nx σ F H δ ω (Ex.refl F) S h⟩
theorem ss_cons (h1 : S1 X T XW st δ ω { R with nx := fun δ' ω' => SD X T XW sts δ' ω' R }) : SD X T XW (st :: sts) δ ω R := fun σ F H D S s =>
  ⟨_, pss_cons s1_all ss_all, h1 σ F H { D with nx := allS X sts D } S ⟨fun σ' F' H' δ' ω' e S' q => q σ' F' H' D S' (s.mono e), s.rt, s.bk, s.ct, s.xc⟩⟩
theorem ss_one (h1 : S1 X T XW st δ ω R) : SD X T XW [st] δ ω R := fun σ F H D S s => ⟨_, pss_one s1_all, h1 σ F H D S s⟩

/-! ### statements -/
theorem s_pass (h : R.nx δ ω) : S1 X T XW (.Pass pos) δ ω R := fun σ F H D S s => ⟨_, ps_pass, s.nx σ F H δ ω (Ex.refl F) S h⟩
theorem s_brk (h : R.bk δ ω) : S1 X T XW (.Break pos) δ ω R := fun σ F H D S s => ⟨_, ps_break, s.bk σ F H δ ω (Ex.refl F) S h⟩
theorem s_cont (h : R.ct δ ω) : S1 X T XW (.Continue pos) δ ω R := fun σ F H D S s => ⟨_, ps_continue, s.ct σ F H δ ω (Ex.refl F) S h⟩
theorem s_retN (h : R.rt (.d .non) ω) : S1 X T XW (.Return none pos) δ ω R := fun σ F H D S s => ⟨_, ps_retN, s.rt .non σ F H (.d .non) δ ω (Ex.refl F) S (show Rp X.K F .non .non from .non) h⟩
theorem s_retX (h : PX X T XW e δ ω R.rt R.xc) : S1 X T XW (.Return (some e) pos) δ ω R := fun σ F H D S s =>
  ⟨_, ps_ret pe_all, h σ F H S D.rt (fun v F' H' r ω' e1 S' z q => s.rt v σ F' H' r δ ω' e1 S' z q) fun C F' H' ω' e1 S' q => s.xc C σ F' H' δ ω' e1 S' q⟩
theorem s_ret (h : PD X T e δ ω r ω1) (q : R.rt r ω1) : S1 X T XW (.Return (some e) pos) δ ω R := s_retX (h.px q)
theorem s_exprX (h : PX X T XW e δ ω (fun _ ω' => R.nx δ ω') R.xc) (hs : swapsWith e none pos.line X.env = pure false := by rfl) : S1 X T XW (.Expr e pos) δ ω R := fun σ F H D S s =>
  ⟨_, ps_expr pe_all hs, h σ F H S (fun _ H1 => D.nx σ H1) (fun v F' H' r ω' e1 S' z q => s.nx σ F' H' δ ω' e1 S' q) fun C F' H' ω' e1 S' q => s.xc C σ F' H' δ ω' e1 S' q⟩
theorem s_expr (h : PD X T e δ ω r ω1) (q : R.nx δ ω1) (hs : swapsWith e none pos.line X.env = pure false := by rfl) : S1 X T XW (.Expr e pos) δ ω R := s_exprX (h.px q) hs
theorem s_setX {i : Nat} {x : Str} {p2 : Pos} (hN : X.N.Nodup) (hi : X.N[i]? = some x) (hx : Loc X.env.scope x) (h : PX X T XW e δ ω (fun r ω' => R.nx (δ.set i r) ω') R.xc)
    (hs : swapsWith e (some (.Name x p2)) pos.line X.env = pure false := by rfl) (hf : X.fn x = true ∨ X.env.scope.names.lookup x = some .local := by first | exact .inl rfl | exact .inr rfl | assumption) : S1 X T XW (.Assign [.Name x p2] e pos) δ ω R := fun σ F H D S s =>
  ⟨_, ps_set hN hi hx pe_all hs (hf := hf), h σ F H S _ (fun v F' H' r ω' e1 S' z q => s.nx _ F' H' _ ω' e1 (S'.slots (S'.sl.set z i)) q) fun C F' H' ω' e1 S' q => s.xc C σ F' H' δ ω' e1 S' q⟩
theorem s_set {i : Nat} {x : Str} {p2 : Pos} (hN : X.N.Nodup) (hi : X.N[i]? = some x) (hx : Loc X.env.scope x) (h : PD X T e δ ω r ω1) (q : R.nx (δ.set i r) ω1)
    (hs : swapsWith e (some (.Name x p2)) pos.line X.env = pure false := by rfl) (hf : X.fn x = true ∨ X.env.scope.names.lookup x = some .local := by first | exact .inl rfl | exact .inr rfl | assumption) : S1 X T XW (.Assign [.Name x p2] e pos) δ ω R := s_setX hN hi hx (h.px q) hs hf
theorem s_if {k : Bool} {xs ys : List Stmt} (hc : PB X T c δ ω k ω1) (ha : k = true → SD X T XW xs δ ω1 R) (hb : k = false → SD X T XW ys δ ω1 R) : S1 X T XW (.If c xs ys pos) δ ω R := by
  obtain ⟨t, h1, h2⟩ := hc
  intro σ F H D S s
  refine ⟨_, ps_if h1 ss_all ss_all, ?_⟩
  refine h2 σ F H S _ fun F1 H1 e1 S1 => ?_
  cases k with
  | true =>
    show (if true = true then _ else _)
    rw [if_pos rfl]
    exact ha rfl σ F1 H1 D S1 (s.mono e1)
  | false =>
    show (if false = true then _ else _)
    rw [if_neg Bool.false_ne_true]
    exact hb rfl σ F1 H1 D S1 (s.mono e1)
/-- where what R wants of the ways out differs -/
theorem S1.imp (h : S1 X T XW st δ ω R) (nx : ∀ δ ω, R.nx δ ω → R'.nx δ ω) (rt : ∀ r ω, R.rt r ω → R'.rt r ω) (bk : ∀ δ ω, R.bk δ ω → R'.bk δ ω) (ct : ∀ δ ω, R.ct δ ω → R'.ct δ ω) (xc : ∀ C ω, R.xc C ω → R'.xc C ω) : S1 X T XW st δ ω R' :=
  fun σ F H D S s => h σ F H D S ⟨fun σ F' H δ ω e S q => s.nx σ F' H δ ω e S (nx _ _ q), fun v σ F' H r δ ω e S z q => s.rt v σ F' H r δ ω e S z (rt _ _ q), fun σ F' H δ ω e S q => s.bk σ F' H δ ω e S (bk _ _ q), fun σ F' H δ ω e S q => s.ct σ F' H δ ω e S (ct _ _ q), fun C σ F' H δ ω e S q => s.xc C σ F' H δ ω e S (xc _ _ q)⟩

/-! ### several names at once -/
theorem RpL.sls {K : PySem.W.Frag} {F : Hp} {vs : List V} {ds : List Dt} (r : RpL K F vs ds) : SlsOk K F (vs.map some) (ds.map Sl.d) := by
  induction vs generalizing ds with
  | nil =>
    cases r
    exact .nil
  | cons v vs ih =>
    cases r with
    | cons h r => exact .cons h (ih r)
theorem s_un2 {i j : Nat} {x y : Str} {p1 p2 p3 : Pos} {k} {d1 d2 : Dt} (hcm : X.calm = true) (hN : X.N.Nodup) (hi : X.N[i]? = some x) (hx : Loc X.env.scope x) (hj : X.N[j]? = some y) (hy : Loc X.env.scope y)
    (h : PD X T e δ ω (.d (.tup [d1, d2])) ω1) (q : R.nx ((δ.set i (.d d1)).set j (.d d2)) ω1) (hs : swapsWithSole [.Tuple [.Name x p1, .Name y p2] k p3] e pos.line X.env = pure false := by rfl)
    (hw : swappedStores [.Tuple [.Name x p1, .Name y p2] k p3] e X.env = pure none := by rfl)
    (hf : X.fn x = true ∨ X.env.scope.names.lookup x = some .local := by first | exact .inl rfl | exact .inr rfl | assumption) (hf2 : X.fn y = true ∨ X.env.scope.names.lookup y = some .local := by first | exact .inl rfl | exact .inr rfl | assumption) :
    S1 X T XW (.Assign [.Tuple [.Name x p1, .Name y p2] k p3] e pos) δ ω R := by
  obtain ⟨t, h1, h2⟩ := h
  intro σ F H D S s
  refine ⟨_, ps_asg h1 (pg_tup hcm (pgs_cons (pg_name hN hi hx hf) (pgs_cons (pg_name hN hj hy hf2) pgs_nil))) hs hw, ?_⟩
  refine h2 σ F H S _ fun v F1 H1 e1 S1 r1 => ?_
  have r1 : Rp X.K F1 v (.tup [d1, d2]) := r1
  cases r1 with
  | tup z r =>
    cases r with
    | cons ra r =>
      cases r with
      | cons rb r =>
        cases r
        refine ⟨_, _, rfl, SqT.of (S1.ex _ _ z), rfl, _, _, rfl, _, _, rfl, rfl, ?_⟩
        exact s.nx _ F1 H1 _ ω1 e1 (S1.slots ((S1.sl.set (x := .d d1) (v := some _) ra i).set (x := .d d2) (v := some _) rb j)) q
end

/-! ### defs -/
abbrev FSp := List Sl → Om → (Sl → Om → Prop) → (Addr → Om → Prop) → Prop
/-- a promise over plain data, as one over values -/
def toSp (K : PySem.W.Frag) (T : List (Addr × Str)) (n : Nat) (fs : FSp) : Sp := fun vs H Q E => vs.length = n ∧ ∃ (F : Hp) (ω : Om) (as : List Sl) (P : Sl → Om → Prop) (RX : Addr → Om → Prop),
  fs as ω P RX ∧ StOk K T F H (vs.map some) as ω ∧ (∀ v σ F' H' r δ ω', Ex F F' → StOk K T F' H' σ δ ω' → SlOk K F' (some v) r → P r ω' → Q v H') ∧ (∀ C σ F' H' δ ω', Ex F F' → StOk K T F' H' σ δ ω' → RX C ω' → E (.ref C) none H')
/-- a plain function of data -/
def pureF (G : List Dt → Option Dt) : FSp := fun as ω P _ => ∃ xs y, as = xs.map Sl.d ∧ G xs = some y ∧ P (.d y) ω
/-- by a relation -/
def pureR (G : List Dt → Dt → Prop) : FSp := fun as ω P _ => ∃ xs y, as = xs.map Sl.d ∧ G xs y ∧ P (.d y) ω

/-- what is wished of a callee's exceptions is wished here -/
def TkC (CX : CXT) (X : Cx) (XW : WX) : Prop := ∀ σ, PassesAt CX X σ (WE XW σ)
theorem tk0 {X : Cx} {XW : WX} : TkC CX0 X XW := fun σ pins H s e s' I c => c.elim
theorem tkX {X : Cx} {XW : WX} (tk : Takes X XW) : TkC (L2.CX X.prog X.w) X XW := fun σ => passAt tk σ
abbrev XN : WX := fun _ _ _ _ => False
theorem tkN {X : Cx} : TkC (L2.CX X.prog X.w) X XN := fun σ => passAt L2.takes0 σ

section
variable {X : Cx} {T : List (Addr × Str)} {XW : WX} {a b c e : Expr} {es : List Expr} {δ δ' : List Sl} {ω ω1 ω2 ω3 : Om} {r : Sl} {pos p : Pos} {P : Sl → Om → Prop} {RX : Addr → Om → Prop}
variable {CX : CXT} {k n : Nat} {f : Addr} {fd : FuncData} {ps : List Str} {fs : FSp} {x : Str} {as : List Sl}
theorem SlsOk.len {K : PySem.W.Frag} {F : Hp} : ∀ {σ : L2.St} {δ : List Sl}, SlsOk K F σ δ → σ.length = δ.length
  | _, _, .nil => rfl
  | _, _, .cons _ r => congrArg (· + 1) (SlsOk.len r)
/-- f(e, ..) -/
theorem px_call (G : FnOk X.prog X.w X.K X.mg X.base CX k f fd ps (toSp X.K T n fs)) (hr : Room k X.A) (hm : X.mg x = some (.ref f)) (hk : PySem.W.keepIn X.K (.ref f) = true) (hb : Binds X.K fd ps []) (tk : TkC CX X XW)
    (ha : PL X T (e :: es) δ ω as ω1) (hn : as.length = n) (q : fs as ω1 P RX) (hg : Gl X x := by rfl) (hdb : (x == ("__debug__" : Str)) = false := by decide) (he : starEach (e :: es) X.env = (false, eval e X.env) :: starEach es X.env := by rfl)
    (hpl : (backTo pos (starEach es X.env)).any (·.1) = false := by rfl) : PX X T XW (.Call (.Name x p) (e :: es) [] pos) δ ω P RX := by
  obtain ⟨t, h1, h2⟩ := ha
  intro σ F H S Q kv kx
  refine ⟨_, pe_callS G hr hg hm hk hb tk h1 hdb he hpl, ?_⟩
  refine h2 σ F H S _ fun vs F1 H1 e1 S1 r1 => ?_
  have hl : vs.length = n := by
    have := r1.len
    rw [List.length_map] at this
    rw [this, hn]
  refine ⟨hl, F1, ω1, as, P, RX, q, S1.slots r1, fun v σ' F' H' r δ' ω' e2 S2 z p => ?_, fun C σ' F' H' δ' ω' e2 S2 p => ?_⟩
  · exact kv v F' H' r ω' (e1.trans e2) (S2.slots (S1.sl.mono e2)) z p
  · exact kx C F' H' ω' (e1.trans e2) (S2.slots (S1.sl.mono e2)) p
/-- a call whose value is known -/
theorem pd_call {y : Sl} (G : FnOk X.prog X.w X.K X.mg X.base CX k f fd ps (toSp X.K T n fs)) (hr : Room k X.A) (hm : X.mg x = some (.ref f)) (hk : PySem.W.keepIn X.K (.ref f) = true) (hb : Binds X.K fd ps []) (tk : TkC CX X XN)
    (ha : PL X T (e :: es) δ ω as ω1) (hn : as.length = n) (q : fs as ω1 (fun r ω' => r = y ∧ ω' = ω2) fun _ _ => False) (hg : Gl X x := by rfl) (hdb : (x == ("__debug__" : Str)) = false := by decide) (he : starEach (e :: es) X.env = (false, eval e X.env) :: starEach es X.env := by rfl)
    (hpl : (backTo pos (starEach es X.env)).any (·.1) = false := by rfl) : PD X T (.Call (.Name x p) (e :: es) [] pos) δ ω y ω2 := by
  have h := px_call (XW := XN) (p := p) (pos := pos) G hr hm hk hb tk ha hn q hg hdb he hpl
  refine ⟨_, pe_all, fun σ F H S Q kq => ?_⟩
  refine h σ F H S Q (fun v F' H' r ω' e1 S1 z q => ?_) (fun C F' H' ω' e1 S1 q => q.elim)
  obtain ⟨rfl, rfl⟩ := q
  exact kq v F' H' e1 S1 z
theorem pd_fn {xs : List Dt} {y : Dt} {g : List Dt → Option Dt} (G : FnOk X.prog X.w X.K X.mg X.base CX k f fd ps (toSp X.K T n (pureF g))) (hr : Room k X.A) (hm : X.mg x = some (.ref f)) (hk : PySem.W.keepIn X.K (.ref f) = true) (hb : Binds X.K fd ps []) (tk : TkC CX X XN)
    (ha : PL X T (e :: es) δ ω (xs.map Sl.d) ω1) (hn : xs.length = n) (q : g xs = some y) (hg : Gl X x := by rfl) (hdb : (x == ("__debug__" : Str)) = false := by decide) (he : starEach (e :: es) X.env = (false, eval e X.env) :: starEach es X.env := by rfl)
    (hpl : (backTo pos (starEach es X.env)).any (·.1) = false := by rfl) : PD X T (.Call (.Name x p) (e :: es) [] pos) δ ω (.d y) ω1 :=
  pd_call G hr hm hk hb tk ha (by rw [List.length_map]; exact hn) ⟨xs, y, rfl, q, rfl, rfl⟩ hg hdb he hpl
end

/-- the slots at a def's entry -/
def entry (N : List Str) (as : List Sl) : List Sl := as ++ List.replicate (N.length - as.length) Sl.un
theorem SlsOk.append {K : PySem.W.Frag} {F : Hp} : ∀ {σ σ' : L2.St} {δ δ' : List Sl}, SlsOk K F σ δ → SlsOk K F σ' δ' → SlsOk K F (σ ++ σ') (δ ++ δ')
  | _, _, _, _, .nil, q => q
  | _, _, _, _, .cons h r, q => .cons h (SlsOk.append r q)
theorem entry_ok {K : PySem.W.Frag} {F : Hp} {N : List Str} {vs : List V} {as : List Sl} (h : SlsOk K F (vs.map some) as) : SlsOk K F (L2.start N vs) (entry N as) := by
  have hl := h.len
  rw [List.length_map] at hl
  unfold L2.start entry
  rw [hl]
  refine h.append ?_
  generalize N.length - as.length = m
  induction m with
  | zero => exact .nil
  | succ m ih => exact .cons trivial ih
section
variable {P : Program} {w : World} {K : PySem.W.Frag} {T : List (Addr × Str)} {mg : Str → Option Value} {base : Heap}
/-- THE RULE for a def that lets nothing out -/
theorem fn_ok {x qual : Str} {st : Stmt} {f : Addr} {fd : FuncData} {N ps : List Str} {k : Nat} {fs : FSp} (F : Fun K x qual st f fd) (S : FnScope N ps (defScope st))
    (hbody : ∀ (cdv : Value) (A : Around) (outer : List Env) (s : Shared) (H : Hp) (as : List Sl) (ω : Om) (Q : Sl → Om → Prop) (RX : Addr → Om → Prop), Room k (A.deeper (envOfC qual (defScope st) s.heap.objs.size f cdv)) → as.length = ps.length → fs as ω Q RX →
      SD (cxOf CX0 P w K mg base N qual (defScope st) f cdv A outer s H E0).nox T XN (defBody st) (entry N as) ω { nx := fun _ ω' => Q (.d .non) ω', rt := Q }) : FnOk P w K mg base CX0 (k + 1) f fd ps (toSp K T ps.length fs) := by
  refine F.ok S (fun vs H Q E h => h.1) (fun cdv A outer s H vs Q E hr h => ?_)
  obtain ⟨hl, Fr, ω, as, R, RX, hfs, S0, kr, kx⟩ := h
  have hla : as.length = ps.length := by
    have := S0.sl.len
    rw [List.length_map] at this
    rw [← this, hl]
  have hb := hbody cdv A outer s H as ω R RX hr hla hfs
  refine hb _ Fr H _ (S0.slots (entry_ok S0.sl)) ⟨fun σ F' H' δ ω' e1 S1 q => ?_, fun v σ F' H' r δ ω' e1 S1 z q => ?_, fun _ _ _ _ _ _ _ q => q.elim, fun _ _ _ _ _ _ _ q => q.elim, fun _ _ _ _ _ _ _ _ q => q.elim⟩
  · exact kr .non σ F' H' (.d .non) δ ω' e1 S1 (show Rp K F' .non .non from .non) q
  · exact kr v σ F' H' r δ ω' e1 S1 z q
/-- THE RULE for a def that may raise -/
theorem fn_okX {x qual : Str} {st : Stmt} {f : Addr} {fd : FuncData} {N ps : List Str} {k : Nat} {fs : FSp} (F : Fun K x qual st f fd) (S : FnScope N ps (defScope st))
    (hbody : ∀ (cdv : Value) (A : Around) (outer : List Env) (s : Shared) (H : Hp) (E : XK) (as : List Sl) (ω : Om) (Q : Sl → Om → Prop) (RX : Addr → Om → Prop), Room k (A.deeper (envOfC qual (defScope st) s.heap.objs.size f cdv)) → as.length = ps.length → fs as ω Q RX →
      SD (cxOf (L2.CX P w) P w K mg base N qual (defScope st) f cdv A outer s H E) T (fun cls d _ H' => E cls d H') (defBody st) (entry N as) ω { nx := fun _ ω' => Q (.d .non) ω', rt := Q, xc := RX }) : FnOk P w K mg base (L2.CX P w) (k + 1) f fd ps (toSp K T ps.length fs) := by
  refine F.okX S (fun vs H Q E h => h.1) (fun cdv A outer s H vs Q E hr h => ?_)
  obtain ⟨hl, Fr, ω, as, R, RX, hfs, S0, kr, kx⟩ := h
  have hla : as.length = ps.length := by
    have := S0.sl.len
    rw [List.length_map] at this
    rw [← this, hl]
  have hb := hbody cdv A outer s H E as ω R RX hr hla hfs
  refine hb _ Fr H _ (S0.slots (entry_ok S0.sl)) ⟨fun σ F' H' δ ω' e1 S1 q => ?_, fun v σ F' H' r δ ω' e1 S1 z q => ?_, fun _ _ _ _ _ _ _ q => q.elim, fun _ _ _ _ _ _ _ q => q.elim, fun C σ F' H' δ ω' e1 S1 q => ?_⟩
  · exact kr .non σ F' H' (.d .non) δ ω' e1 S1 (show Rp K F' .non .non from .non) q
  · exact kr v σ F' H' r δ ω' e1 S1 z q
  · exact kx C σ F' H' δ ω' e1 S1 q
end
end Fl
/-! Fl3: short forms. -/
namespace Fl
open PySem PySem.Spec PyProof.Rows L2
def Sl.ok : Sl → Bool
  | .un => false
  | .any => false
  | _ => true
section
variable {X : Cx} {T : List (Addr × Str)} {XW : WX} {a b c e : Expr} {es : List Expr} {δ δ' : List Sl} {ω ω1 ω2 ω3 : Om} {r : Sl} {pos p : Pos} {R : Wt} {x : Str}
theorem vr (i : Nat) (hi : δ[i]? = some r := by rfl) (hN : X.N[i]? = some x := by rfl) (ok : r.ok = true := by rfl) (hv : Vis X.env.scope x := by first | exact Or.inl rfl | exact Or.inr (Or.inl rfl) | exact Or.inr (Or.inr rfl))
    (hd : (x == ("__debug__" : Str)) = false := by decide) (hcd : (x == ("__classdict__" : Str)) = false := by decide) : PD X T (.Name x pos) δ ω r ω :=
  pd_var hi hN (fun z => by rw [z] at ok; cases ok) (fun z => by rw [z] at ok; cases ok) hv hd hcd
theorem sv (i : Nat) {p2 : Pos} (h : PD X T e δ ω r ω1) (q : R.nx (δ.set i r) ω1) (hN : X.N.Nodup := by first | assumption | exact FnScope.nd (by assumption)) (hi : X.N[i]? = some x := by rfl) (hx : Loc X.env.scope x := by first | exact Or.inl rfl | exact Or.inr rfl)
    (hs : swapsWith e (some (.Name x p2)) pos.line X.env = pure false := by rfl) (hf : X.fn x = true ∨ X.env.scope.names.lookup x = some .local := by first | exact .inl rfl | exact .inr rfl | assumption) : S1 X T XW (.Assign [.Name x p2] e pos) δ ω R :=
  s_set hN hi hx h q hs hf
/-- a def that may be called -/
structure Cal (P : Program) (w : World) (K : PySem.W.Frag) (mg : Str → Option Value) (base : Heap) (CX : CXT) (T : List (Addr × Str)) (k : Nat) (x : Str) (n : Nat) (fs : FSp) : Prop where
  ex : ∃ f fd ps, FnOk P w K mg base CX k f fd ps (toSp K T n fs) ∧ mg x = some (.ref f) ∧ PySem.W.keepIn K (.ref f) = true ∧ Binds K fd ps []
variable {CX : CXT} {k n : Nat} {fs : FSp} {as : List Sl} {P : Sl → Om → Prop} {RX : Addr → Om → Prop}
theorem cx (C : Cal X.prog X.w X.K X.mg X.base CX T k x n fs) (hr : Room k X.A) (tk : TkC CX X XW) (ha : PL X T (e :: es) δ ω as ω1) (hn : as.length = n) (q : fs as ω1 P RX) (hg : Gl X x := by rfl) (hdb : (x == ("__debug__" : Str)) = false := by decide)
    (he : starEach (e :: es) X.env = (false, eval e X.env) :: starEach es X.env := by rfl) (hpl : (backTo pos (starEach es X.env)).any (·.1) = false := by rfl) : PX X T XW (.Call (.Name x p) (e :: es) [] pos) δ ω P RX := by
  obtain ⟨f, fd, ps, G, hm, hk, hb⟩ := C.ex
  exact px_call G hr hm hk hb tk ha hn q hg hdb he hpl
theorem cd {xs : List Dt} {y : Dt} {g : List Dt → Option Dt} (C : Cal X.prog X.w X.K X.mg X.base CX T k x n (pureF g)) (hr : Room k X.A) (tk : TkC CX X XN) (ha : PL X T (e :: es) δ ω (xs.map Sl.d) ω1) (q : g xs = some y) (hn : xs.length = n := by rfl) (hg : Gl X x := by rfl)
    (hdb : (x == ("__debug__" : Str)) = false := by decide) (he : starEach (e :: es) X.env = (false, eval e X.env) :: starEach es X.env := by rfl) (hpl : (backTo pos (starEach es X.env)).any (·.1) = false := by rfl) : PD X T (.Call (.Name x p) (e :: es) [] pos) δ ω (.d y) ω1 := by
  obtain ⟨f, fd, ps, G, hm, hk, hb⟩ := C.ex
  exact pd_fn G hr hm hk hb tk ha hn q hg hdb he hpl
/-- arguments that are all data -/
theorem dl_nil : PL X T [] δ ω (([] : List Dt).map Sl.d) ω := pl_nil
theorem dl {d : Dt} {ds : List Dt} (ha : PD X T e δ ω (.d d) ω1) (hr : PL X T es δ ω1 (ds.map Sl.d) ω2) (hs : starEach (e :: es) X.env = (false, eval e X.env) :: starEach es X.env := by rfl) : PL X T (e :: es) δ ω ((d :: ds).map Sl.d) ω2 := pl_cons ha hr hs
end
theorem szl {n m : Nat} (h : Nat.ble n m = true := by rfl) : n ≤ m := Nat.le_of_ble_eq_true h
theorem powW {i j : Int} (h : CPowW i j) : CPowW i j := h
end Fl
/-! Fl4: calls of built-ins, lists and tuples put together and cut, in, is. -/
namespace Fl
open PySem PySem.Spec PyProof.Rows L2
section
variable {X : Cx} {T : List (Addr × Str)} {XW : WX} {a b c e : Expr} {es : List Expr} {δ δ' : List Sl} {ω ω1 ω2 ω3 : Om} {r y : Sl} {as : List Sl} {pos p p2 : Pos} {R : Wt} {x : Str}
/-- a built-in function by its rule on values -/
theorem pd_cb {id : String} {rr : List V → Hp → VK → Prop} (hc : CallR X (.builtin id) rr) (hm : X.mg x = none) (hv : bootBuiltins x = some (.builtin id)) (ha : PL X T (e :: es) δ ω as ω1)
    (hr : ∀ (σ : L2.St) (F H : Hp) (vs : List V), StOk X.K T F H σ δ ω1 → SlsOk X.K F (vs.map some) as → ∀ Q : VK, (∀ w F' H', Ex F F' → StOk X.K T F' H' σ δ ω2 → SlOk X.K F' (some w) y → Q w H') → rr vs H Q)
    (hg : Gl X x := by rfl) (hn : x ≠ "__name__" := by decide) (hdb : (x == ("__debug__" : Str)) = false := by decide) (he : starEach (e :: es) X.env = (false, eval e X.env) :: starEach es X.env := by rfl) (hpl : (backTo pos (starEach es X.env)).any (·.1) = false := by rfl) :
    PD X T (.Call (.Name x p) (e :: es) [] pos) δ ω y ω2 := by
  obtain ⟨t, h1, h2⟩ := ha
  refine ⟨_, pe_callB hc hg hm hv h1 hn hdb he hpl, fun σ F H S Q q => ?_⟩
  refine h2 σ F H S _ fun vs F1 H1 e1 S1 r1 => ?_
  exact hr σ F1 H1 vs S1 r1 Q fun w F' H' e2 S2 z => q w F' H' (e1.trans e2) S2 z
theorem pd_ct {id : String} {rr : List V → Hp → VK → Prop} (hc : CallR X (.type id) rr) (hm : X.mg x = none) (hv : bootBuiltins x = some (.type id)) (ha : PL X T (e :: es) δ ω as ω1)
    (hr : ∀ (σ : L2.St) (F H : Hp) (vs : List V), StOk X.K T F H σ δ ω1 → SlsOk X.K F (vs.map some) as → ∀ Q : VK, (∀ w F' H', Ex F F' → StOk X.K T F' H' σ δ ω2 → SlOk X.K F' (some w) y → Q w H') → rr vs H Q)
    (hg : Gl X x := by rfl) (hn : x ≠ "__name__" := by decide) (hdb : (x == ("__debug__" : Str)) = false := by decide) (he : starEach (e :: es) X.env = (false, eval e X.env) :: starEach es X.env := by rfl) (hpl : (backTo pos (starEach es X.env)).any (·.1) = false := by rfl) :
    PD X T (.Call (.Name x p) (e :: es) [] pos) δ ω y ω2 := by
  obtain ⟨t, h1, h2⟩ := ha
  refine ⟨_, pe_callTy hc hg hm hv h1 hn hdb he hpl, fun σ F H S Q q => ?_⟩
  refine h2 σ F H S _ fun vs F1 H1 e1 S1 r1 => ?_
  exact hr σ F1 H1 vs S1 r1 Q fun w F' H' e2 S2 z => q w F' H' (e1.trans e2) S2 z
theorem sls1 {K : PySem.W.Frag} {F : Hp} {vs : List V} {r1 : Sl} (h : SlsOk K F (vs.map some) [r1]) : ∃ v, vs = [v] ∧ SlOk K F (some v) r1 := by
  match vs, h with
  | [v], .cons h .nil => exact ⟨v, rfl, h⟩
theorem sls2 {K : PySem.W.Frag} {F : Hp} {vs : List V} {r1 r2 : Sl} (h : SlsOk K F (vs.map some) [r1, r2]) : ∃ v w, vs = [v, w] ∧ SlOk K F (some v) r1 ∧ SlOk K F (some w) r2 := by
  match vs, h with
  | [v, w], .cons h (.cons h2 .nil) => exact ⟨v, w, rfl, h, h2⟩
theorem pl1 (ha : PD X T e δ ω r ω1) (hs : starEach (e :: []) X.env = (false, eval e X.env) :: starEach [] X.env := by rfl) : PL X T [e] δ ω [r] ω1 := pl_cons ha pl_nil hs
theorem pl2 (ha : PD X T a δ ω r ω1) (hb : PD X T b δ ω1 y ω2) (hs : starEach (a :: [b]) X.env = (false, eval a X.env) :: starEach [b] X.env := by rfl) (hs2 : starEach (b :: []) X.env = (false, eval b X.env) :: starEach [] X.env := by rfl) : PL X T [a, b] δ ω [r, y] ω2 := pl_cons ha (pl1 hb hs2) hs
/-- a built-in type by its name, as a value -/
theorem pd_ty {n : String} (hm : X.mg x = none) (hv : bootBuiltins x = some (.type n)) (hg : Gl X x := by rfl) (hn : x ≠ "__name__" := by decide) (hd : (x == ("__debug__" : Str)) = false := by decide) : PD X T (.Name x pos) δ ω (.v (.ty n)) ω :=
  ⟨_, pe_bltn hg hm hv (v := .ty n) rfl hn hd, fun σ F H S Q q => q _ F H (Ex.refl F) S rfl⟩
/-- an own class (or def) by its name, as a value -/
theorem pd_cls {C : Addr} (hm : X.mg x = some (.ref C)) (hg : Gl X x := by rfl) (hd : (x == ("__debug__" : Str)) = false := by decide) : PD X T (.Name x pos) δ ω (.v (.ref C)) ω :=
  ⟨_, pe_glob hg hm (v := .ref C) rfl hd, fun σ F H S Q q => q _ F H (Ex.refl F) S rfl⟩

/-! ### types -/
def Dt.ty : Dt → String
  | .non => "NoneType"
  | .bl _ => "bool"
  | .int _ => "int"
  | .str _ => "str"
  | .lst _ => "list"
  | .tup _ => "tuple"
  | .emp => "dict"
theorem Rp.tyB {K : PySem.W.Frag} {F H : Hp} (e : Ex F H) {v : V} {d : Dt} (h : Rp K F v d) : TyB K H v d.ty := by
  cases h with
  | non => exact .non
  | bl b => exact .bl b
  | int i => exact .int i
  | str s => exact .str s
  | lst h r => exact .lst (SqL.of (e _ _ h))
  | tup h r => exact .tup (SqT.of (e _ _ h))
  | emp h => exact .dK (e _ _ h)
theorem Rp.tyX {K : PySem.W.Frag} {F H : Hp} (e : Ex F H) {v : V} {d : Dt} (h : Rp K F v d) : TyX K H v (.type d.ty) := by
  cases h with
  | non => exact .base .non
  | bl b => exact .base (.bl b)
  | int i => exact .base (.int i)
  | str s => exact .base (.str s)
  | lst h r => exact .base (.lst (e _ _ h))
  | tup h r => exact .base (.tup (e _ _ h))
  | emp h => exact .base (.dK (e _ _ h))
theorem pd_type {d : Dt} (hm : X.mg "type" = none) (ha : PD X T e δ ω (.d d) ω1) (hg : Gl X "type" := by rfl) (he : starEach (e :: []) X.env = (false, eval e X.env) :: starEach [] X.env := by rfl) : PD X T (.Call (.Name "type" p) [e] [] pos) δ ω (.v (.ty d.ty)) ω1 :=
  pd_ct call_type1 hm (by decide +kernel) (pl1 ha he) (fun σ F H vs S r Q q => by
    obtain ⟨v, rfl, hv⟩ := sls1 r
    exact ⟨v, _, rfl, Rp.tyB S.ex hv, q _ F H (Ex.refl F) S rfl⟩) hg (by decide) (by decide) he rfl
theorem m_isTy {m n : String} (ha : PD X T a δ ω (.v (.ty m)) ω1) (hb : PD X T b δ ω1 (.v (.ty n)) ω2) : PCm X T (.Compare a [.Is] [b] pos) δ ω (.d (.bl (decide (m = n)))) ω2 :=
  m_R op_isTyB ha hb (fun σ F H u v S ru rv Q q => by
    have ru : u = .ty m := ru
    have rv : v = .ty n := rv
    exact ⟨m, n, ru, rv, q _ F H (Ex.refl F) S (Rp.bl _)⟩) (nomark _)
theorem m_notTy {m n : String} (ha : PD X T a δ ω (.v (.ty m)) ω1) (hb : PD X T b δ ω1 (.v (.ty n)) ω2) : PCm X T (.Compare a [.IsNot] [b] pos) δ ω (.d (.bl (!decide (m = n)))) ω2 :=
  m_R op_notTyB ha hb (fun σ F H u v S ru rv Q q => by
    have ru : u = .ty m := ru
    have rv : v = .ty n := rv
    exact ⟨m, n, ru, rv, q _ F H (Ex.refl F) S (Rp.bl _)⟩) (nomark _)
theorem m_isBl {k m : Bool} (ha : PD X T a δ ω (.d (.bl k)) ω1) (hb : PD X T b δ ω1 (.d (.bl m)) ω2) : PCm X T (.Compare a [.Is] [b] pos) δ ω (.d (.bl (decide (k = m)))) ω2 :=
  m_R op_isBl ha hb (fun σ F H u v S ru rv Q q => by
    have ru : Rp X.K F u (.bl k) := ru
    have rv : Rp X.K F v (.bl m) := rv
    cases ru
    cases rv
    exact ⟨k, m, rfl, rfl, q _ F H (Ex.refl F) S (Rp.bl _)⟩) (nomark _)
theorem m_notBl {k m : Bool} (ha : PD X T a δ ω (.d (.bl k)) ω1) (hb : PD X T b δ ω1 (.d (.bl m)) ω2) : PCm X T (.Compare a [.IsNot] [b] pos) δ ω (.d (.bl (!decide (k = m)))) ω2 :=
  m_R op_notBl ha hb (fun σ F H u v S ru rv Q q => by
    have ru : Rp X.K F u (.bl k) := ru
    have rv : Rp X.K F v (.bl m) := rv
    cases ru
    cases rv
    exact ⟨k, m, rfl, rfl, q _ F H (Ex.refl F) S (Rp.bl _)⟩) (nomark _)
/-- isinstance(e, T), T a built-in type -/
theorem pd_isi {d : Dt} {n : String} {k : Bool} (hm : X.mg "isinstance" = none) (ha : PD X T a δ ω (.d d) ω1) (hb : PD X T b δ ω1 (.v (.ty n)) ω2) (hk : kitB d.ty n = some k) (hg : Gl X "isinstance" := by rfl)
    (hs : starEach (a :: [b]) X.env = (false, eval a X.env) :: starEach [b] X.env := by rfl) (hs2 : starEach (b :: []) X.env = (false, eval b X.env) :: starEach [] X.env := by rfl) (hpl : (backTo pos (starEach [b] X.env)).any (·.1) = false := by rfl) : PD X T (.Call (.Name "isinstance" p) [a, b] [] pos) δ ω (.d (.bl k)) ω2 :=
  pd_cb call_isi hm (by decide +kernel) (pl2 ha hb hs hs2) (fun σ F H vs S r Q q => by
    obtain ⟨v, w, rfl, hv, hw⟩ := sls2 r
    have hw : w = .ty n := hw
    subst hw
    exact ⟨v, _, _, _, k, rfl, .ty n, Rp.tyX S.ex hv, kit_ty hk, q _ F H (Ex.refl F) S (Rp.bl _)⟩) hg (by decide) (by decide) hs hpl

/-! ### len, list(..), sorted -/
theorem pd_lenL {ds : List Dt} (hm : X.mg "len" = none) (ha : PD X T e δ ω (.d (.lst ds)) ω1) (hg : Gl X "len" := by rfl) (he : starEach (e :: []) X.env = (false, eval e X.env) :: starEach [] X.env := by rfl) : PD X T (.Call (.Name "len" p) [e] [] pos) δ ω (.d (.int ds.length)) ω1 :=
  pd_cb call_len_seq hm PySem.boot_len (pl1 ha he) (fun σ F H vs S r Q q => by
    obtain ⟨v, rfl, hv⟩ := sls1 r
    have hv : Rp X.K F v (.lst ds) := hv
    cases hv with
    | lst z rr => exact ⟨_, _, rfl, .inl (SqL.of (S.ex _ _ z)), q _ F H (Ex.refl F) S (by rw [rr.length]; exact Rp.int _)⟩) hg (by decide) (by decide) he rfl
theorem pd_lenT {ds : List Dt} (hm : X.mg "len" = none) (ha : PD X T e δ ω (.d (.tup ds)) ω1) (hg : Gl X "len" := by rfl) (he : starEach (e :: []) X.env = (false, eval e X.env) :: starEach [] X.env := by rfl) : PD X T (.Call (.Name "len" p) [e] [] pos) δ ω (.d (.int ds.length)) ω1 :=
  pd_cb call_len_seq hm PySem.boot_len (pl1 ha he) (fun σ F H vs S r Q q => by
    obtain ⟨v, rfl, hv⟩ := sls1 r
    have hv : Rp X.K F v (.tup ds) := hv
    cases hv with
    | tup z rr => exact ⟨_, _, rfl, .inr (SqT.of (S.ex _ _ z)), q _ F H (Ex.refl F) S (by rw [rr.length]; exact Rp.int _)⟩) hg (by decide) (by decide) he rfl
theorem pd_listT {ds : List Dt} (hm : X.mg "list" = none) (ha : PD X T e δ ω (.d (.tup ds)) ω1) (hg : Gl X "list" := by rfl) (he : starEach (e :: []) X.env = (false, eval e X.env) :: starEach [] X.env := by rfl) : PD X T (.Call (.Name "list" p) [e] [] pos) δ ω (.d (.lst ds)) ω1 :=
  pd_ct call_list_of hm (by decide +kernel) (pl1 ha he) (fun σ F H vs S r Q q => by
    obtain ⟨v, rfl, hv⟩ := sls1 r
    have hv : Rp X.K F v (.tup ds) := hv
    cases hv with
    | tup z rr => exact ⟨_, _, rfl, .inr (SqT.of (S.ex _ _ z)), fun l hl => q _ _ _ (S.cold_ex hl) (S.cold hl (fun _ z => nomatch z)) (Rp.lst upd_same (rr.mono (S.cold_ex hl)))⟩) hg (by decide) (by decide) he rfl
theorem pd_listL {ds : List Dt} (hm : X.mg "list" = none) (ha : PD X T e δ ω (.d (.lst ds)) ω1) (hg : Gl X "list" := by rfl) (he : starEach (e :: []) X.env = (false, eval e X.env) :: starEach [] X.env := by rfl) : PD X T (.Call (.Name "list" p) [e] [] pos) δ ω (.d (.lst ds)) ω1 :=
  pd_ct call_list_of hm (by decide +kernel) (pl1 ha he) (fun σ F H vs S r Q q => by
    obtain ⟨v, rfl, hv⟩ := sls1 r
    have hv : Rp X.K F v (.lst ds) := hv
    cases hv with
    | lst z rr => exact ⟨_, _, rfl, .inl (SqL.of (S.ex _ _ z)), fun l hl => q _ _ _ (S.cold_ex hl) (S.cold hl (fun _ z => nomatch z)) (Rp.lst upd_same (rr.mono (S.cold_ex hl)))⟩) hg (by decide) (by decide) he rfl
/-- sorted of ints -/
theorem sorted_uniq {a b : List Int} (h : a.Perm b) (ha : a.Pairwise (· ≤ ·)) (hb : b.Pairwise (· ≤ ·)) : a = b := h.eq_of_pairwise (fun _ _ _ _ h1 h2 => Int.le_antisymm h1 h2) ha hb
theorem pd_sorted {ns ms : List Int} (hm : X.mg "sorted" = none) (ha : PD X T e δ ω (.d (.lst (ns.map Dt.int))) ω1) (hp : ms.Perm ns) (hs : ms.Pairwise (· ≤ ·)) (hg : Gl X "sorted" := by rfl) (he : starEach (e :: []) X.env = (false, eval e X.env) :: starEach [] X.env := by rfl) :
    PD X T (.Call (.Name "sorted" p) [e] [] pos) δ ω (.d (.lst (ms.map Dt.int))) ω1 :=
  pd_cb cr_sortedI hm (by decide +kernel) (pl1 ha he) (fun σ F H vs S r Q q => by
    obtain ⟨v, rfl, hv⟩ := sls1 r
    have hv : Rp X.K F v (.lst (ns.map Dt.int)) := hv
    cases hv with
    | lst z rr =>
      have ev := rr.ints
      subst ev
      exact ⟨_, ns, rfl, SqL.of (S.ex _ _ z), fun ns' pp perm srt new => by
        have e1 : ns' = ms := sorted_uniq (perm.trans hp.symm) srt hs
        subst e1
        exact q _ _ _ (S.cold_ex new) (S.cold new (fun _ z => nomatch z)) (Rp.lst upd_same (RpL.of_ints _))⟩) hg (by decide) (by decide) he rfl

/-! ### put together, cut -/
theorem pd_cat {xs ys : List Dt} (ha : PD X T a δ ω (.d (.lst xs)) ω1) (hb : PD X T b δ ω1 (.d (.lst ys)) ω2) (hs : xs.length + ys.length ≤ sizeLine) : PD X T (.BinOp a .Add b pos) δ ω (.d (.lst (xs ++ ys))) ω2 :=
  pd_opR op_cat ha hb fun σ F H u v S ru rv Q q => by
    have ru : Rp X.K F u (.lst xs) := ru
    have rv : Rp X.K F v (.lst ys) := rv
    cases ru with
    | lst z1 r1 =>
      cases rv with
      | lst z2 r2 =>
        exact ⟨_, _, _, _, rfl, rfl, S.ex _ _ z1, S.ex _ _ z2, by rw [r1.length, r2.length]; exact hs, fun p hp => q _ _ _ (S.cold_ex hp) (S.cold hp (fun _ z => nomatch z)) (Rp.lst upd_same ((r1.append r2).mono (S.cold_ex hp)))⟩
theorem pd_catT {xs ys : List Dt} (ha : PD X T a δ ω (.d (.tup xs)) ω1) (hb : PD X T b δ ω1 (.d (.tup ys)) ω2) (hx : xs ≠ []) (hs : xs.length + ys.length ≤ sizeLine) : PD X T (.BinOp a .Add b pos) δ ω (.d (.tup (xs ++ ys))) ω2 :=
  pd_opR op_catT ha hb fun σ F H u v S ru rv Q q => by
    have ru : Rp X.K F u (.tup xs) := ru
    have rv : Rp X.K F v (.tup ys) := rv
    cases ru with
    | tup z1 r1 =>
      cases rv with
      | tup z2 r2 =>
        refine ⟨_, _, _, _, rfl, rfl, SqT.of (S.ex _ _ z1), SqT.of (S.ex _ _ z2), fun z => ?_, by rw [r1.length, r2.length]; exact hs, fun z => ?_, fun _ p hp => q _ _ _ (S.cold_ex hp) (S.cold hp (fun _ z => nomatch z)) (Rp.tup upd_same ((r1.append r2).mono (S.cold_ex hp)))⟩
        · have := r1.length
          rw [z] at this
          exact hx (List.length_eq_zero_iff.mp this.symm)
        · have := r2.length
          rw [z] at this
          have e : ys = [] := List.length_eq_zero_iff.mp this.symm
          subst e
          exact q _ F H (Ex.refl F) S (by rw [List.append_nil]; exact Rp.tup z1 r1)
theorem RpL.flat {K : PySem.W.Frag} {F : Hp} {vs : List V} {ds : List Dt} (r : RpL K F vs ds) : ∀ n : Nat, RpL K F (List.replicate n vs).flatten (List.replicate n ds).flatten
  | 0 => .nil
  | n + 1 => by
    rw [List.replicate_succ, List.replicate_succ, List.flatten_cons, List.flatten_cons]
    exact r.append (RpL.flat r n)
theorem pd_rep {xs : List Dt} {k : Int} (ha : PD X T a δ ω (.d (.lst xs)) ω1) (hb : PD X T b δ ω1 (.d (.int k)) ω2) (h1 : -(2 ^ 63) ≤ k) (h2 : k < 2 ^ 63) (hs : xs.length * k.toNat ≤ sizeLine) : PD X T (.BinOp a .Mult b pos) δ ω (.d (.lst (List.replicate k.toNat xs).flatten)) ω2 :=
  pd_opR op_rep ha hb fun σ F H u v S ru rv Q q => by
    have ru : Rp X.K F u (.lst xs) := ru
    have rv : Rp X.K F v (.int k) := rv
    cases rv
    cases ru with
    | lst z1 r1 =>
      exact ⟨_, k, _, rfl, rfl, S.ex _ _ z1, h1, h2, by rw [r1.length]; exact hs, fun p hp => q _ _ _ (S.cold_ex hp) (S.cold hp (fun _ z => nomatch z)) (Rp.lst upd_same ((r1.flat _).mono (S.cold_ex hp)))⟩
def cutD (xs : List Dt) (lo hi : Option Int) : List Dt := (xs.drop (HT.sIx xs.length 0 lo)).take (HT.sIx xs.length xs.length hi - HT.sIx xs.length 0 lo)
theorem RpL.cut {K : PySem.W.Frag} {F : Hp} {vs : List V} {ds : List Dt} (r : RpL K F vs ds) (lo hi : Option Int) : RpL K F (cutV vs lo hi) (cutD ds lo hi) := by
  unfold cutV cutD
  rw [r.length]
  exact (r.drop _).take _
/-- an optional part of a slice -/
def PP (X : Cx) (T : List (Addr × Str)) (o : Option Expr) (δ : List Sl) (ω : Om) (i : Option Int) (ω' : Om) : Prop := ∃ t : TO, PO X o t ∧ ∀ (σ : L2.St) (F H : Hp), StOk X.K T F H σ δ ω → ∀ Q : Option Int → Hp → Prop, (∀ F' H', Ex F F' → StOk X.K T F' H' σ δ ω' → Q i H') → t σ H Q
theorem pp_none : PP X T none δ ω none ω := ⟨_, po_none, fun σ F H S Q q => q F H (Ex.refl F) S⟩
theorem pp_some {i : Int} (h : PD X T e δ ω (.d (.int i)) ω1) : PP X T (some e) δ ω (some i) ω1 := by
  obtain ⟨t, h1, h2⟩ := h
  refine ⟨_, po_some h1, fun σ F H S Q q => ?_⟩
  refine h2 σ F H S _ fun v F1 H1 e1 S1 r1 => ?_
  have r1 : Rp X.K F1 v (.int i) := r1
  cases r1
  exact ⟨i, rfl, q F1 H1 e1 S1⟩
theorem pd_cutL {o1 o2 : Option Expr} {ds : List Dt} {i j : Option Int} (ha : PD X T e δ ω (.d (.lst ds)) ω1) (h1 : PP X T o1 δ ω1 i ω2) (h2 : PP X T o2 δ ω2 j ω3) : PD X T (.Subscript e (.Slice o1 o2 none p2) pos) δ ω (.d (.lst (cutD ds i j))) ω3 := by
  obtain ⟨t, g1, g2⟩ := ha
  obtain ⟨t1, f1, f2⟩ := h1
  obtain ⟨t2, k1, k2⟩ := h2
  refine ⟨_, pe_slice sl_list g1 f1 k1, fun σ F H S Q q => ?_⟩
  refine g2 σ F H S _ fun v F1 H1 e1 S1 r1 => ?_
  refine f2 σ F1 H1 S1 _ fun F2 H2 e2 S2 => ?_
  refine k2 σ F2 H2 S2 _ fun F3 H3 e3 S3 => ?_
  have r1 : Rp X.K F3 v (.lst ds) := r1.mono (e2.trans e3)
  cases r1 with
  | lst z r => exact ⟨_, _, rfl, SqL.of (S3.ex _ _ z), fun p hp => q _ _ _ (((e1.trans e2).trans e3).trans (S3.cold_ex hp)) (S3.cold hp (fun _ z => nomatch z)) (Rp.lst upd_same ((r.cut i j).mono (S3.cold_ex hp)))⟩
theorem pd_cutT {o1 o2 : Option Expr} {ds : List Dt} {i j : Option Int} (ha : PD X T e δ ω (.d (.tup ds)) ω1) (h1 : PP X T o1 δ ω1 i ω2) (h2 : PP X T o2 δ ω2 j ω3) (hw : ¬ (HT.sIx ds.length 0 i = 0 ∧ HT.sIx ds.length ds.length j = ds.length)) :
    PD X T (.Subscript e (.Slice o1 o2 none p2) pos) δ ω (.d (.tup (cutD ds i j))) ω3 := by
  obtain ⟨t, g1, g2⟩ := ha
  obtain ⟨t1, f1, f2⟩ := h1
  obtain ⟨t2, k1, k2⟩ := h2
  refine ⟨_, pe_slice sl_tup g1 f1 k1, fun σ F H S Q q => ?_⟩
  refine g2 σ F H S _ fun v F1 H1 e1 S1 r1 => ?_
  refine f2 σ F1 H1 S1 _ fun F2 H2 e2 S2 => ?_
  refine k2 σ F2 H2 S2 _ fun F3 H3 e3 S3 => ?_
  have r1 : Rp X.K F3 v (.tup ds) := r1.mono (e2.trans e3)
  cases r1 with
  | tup z r => exact ⟨_, _, rfl, SqT.of (S3.ex _ _ z), by rw [r.length]; exact hw, fun p hp => q _ _ _ (((e1.trans e2).trans e3).trans (S3.cold_ex hp)) (S3.cold hp (fun _ z => nomatch z)) (Rp.tup upd_same ((r.cut i j).mono (S3.cold_ex hp)))⟩

/-- a part of a list that is read alone -/
theorem pd_cutR {o1 o2 : Option Expr} {ds : List Dt} {i j : Option Int} (ha : PD X T e δ ω (.ro ds) ω1) (h1 : PP X T o1 δ ω1 i ω2) (h2 : PP X T o2 δ ω2 j ω3) : PD X T (.Subscript e (.Slice o1 o2 none p2) pos) δ ω (.d (.lst (cutD ds i j))) ω3 := by
  obtain ⟨t, g1, g2⟩ := ha
  obtain ⟨t1, f1, f2⟩ := h1
  obtain ⟨t2, k1, k2⟩ := h2
  refine ⟨_, pe_slice sl_list g1 f1 k1, fun σ F H S Q q => ?_⟩
  refine g2 σ F H S _ fun v F1 H1 e1 S1 r1 => ?_
  refine f2 σ F1 H1 S1 _ fun F2 H2 e2 S2 => ?_
  refine k2 σ F2 H2 S2 _ fun F3 H3 e3 S3 => ?_
  have r1 : SlOk X.K F3 (some v) (.ro ds) := r1.mono (e2.trans e3)
  obtain ⟨a, xs, rfl, z, r⟩ := r1
  exact ⟨_, _, rfl, S3.ex.sqL z, fun p hp => q _ _ _ (((e1.trans e2).trans e3).trans (S3.cold_ex hp)) (S3.cold hp (fun _ z => nomatch z)) (Rp.lst upd_same ((r.cut i j).mono (S3.cold_ex hp)))⟩

/-! ### in -/
def Dt.flat : Dt → Bool
  | .non => true
  | .bl _ => true
  | .int _ => true
  | .str _ => true
  | _ => false
def Dt.fv : Dt → V
  | .bl b => .bl b
  | .int i => .int i
  | .str s => .str s
  | _ => .non
theorem Rp.fv {K : PySem.W.Frag} {F : Hp} {v : V} {d : Dt} (h : Rp K F v d) (hf : d.flat = true) : v = d.fv ∧ flatV v = true := by
  cases h <;> first | exact ⟨rfl, rfl⟩ | cases hf
theorem RpL.fv {K : PySem.W.Frag} {F : Hp} : ∀ {vs : List V} {ds : List Dt}, RpL K F vs ds → ds.all Dt.flat = true → vs = ds.map Dt.fv ∧ vs.all flatV = true
  | _, _, .nil, _ => ⟨rfl, rfl⟩
  | _, _, .cons h r, hf => by
    rw [List.all_cons, Bool.and_eq_true_iff] at hf
    obtain ⟨h1, h2⟩ := h.fv hf.1
    obtain ⟨h3, h4⟩ := RpL.fv r hf.2
    rw [List.map_cons, List.all_cons, h2, h4, ← h1, ← h3]
    exact ⟨rfl, rfl⟩
/-- d in ds, flat ones -/
def inD (d : Dt) (ds : List Dt) : Bool := ds.any fun y => eqV y.fv d.fv
theorem inD_eq (d : Dt) (ds : List Dt) : inV d.fv (ds.map Dt.fv) = inD d ds := by
  unfold inV inD
  rw [List.any_map]
  rfl
theorem m_inT {d : Dt} {ds : List Dt} (ha : PD X T a δ ω (.d d) ω1) (hb : PD X T b δ ω1 (.d (.tup ds)) ω2) (f1 : d.flat = true) (f2 : ds.all Dt.flat = true) (hm : behindInMarks .In b = false := by rfl) : PCm X T (.Compare a [.In] [b] pos) δ ω (.d (.bl (inD d ds))) ω2 :=
  m_R op_in_seq ha hb (fun σ F H u v S ru rv Q q => by
    have ru : Rp X.K F u d := ru
    have rv : Rp X.K F v (.tup ds) := rv
    cases rv with
    | tup z r =>
      obtain ⟨h1, h2⟩ := ru.fv f1
      obtain ⟨h3, h4⟩ := r.fv f2
      refine ⟨_, _, rfl, .inr (SqT.of (S.ex _ _ z)), h2, h4, ?_⟩
      rw [if_neg Bool.false_ne_true, h1, h3, inD_eq]
      exact q _ F H (Ex.refl F) S (Rp.bl _)) hm
theorem m_inL {d : Dt} {ds : List Dt} (ha : PD X T a δ ω (.d d) ω1) (hb : PD X T b δ ω1 (.d (.lst ds)) ω2) (f1 : d.flat = true) (f2 : ds.all Dt.flat = true) (hm : behindInMarks .In b = false := by rfl) : PCm X T (.Compare a [.In] [b] pos) δ ω (.d (.bl (inD d ds))) ω2 :=
  m_R op_in_seq ha hb (fun σ F H u v S ru rv Q q => by
    have ru : Rp X.K F u d := ru
    have rv : Rp X.K F v (.lst ds) := rv
    cases rv with
    | lst z r =>
      obtain ⟨h1, h2⟩ := ru.fv f1
      obtain ⟨h3, h4⟩ := r.fv f2
      refine ⟨_, _, rfl, .inl (SqL.of (S.ex _ _ z)), h2, h4, ?_⟩
      rw [if_neg Bool.false_ne_true, h1, h3, inD_eq]
      exact q _ F H (Ex.refl F) S (Rp.bl _)) hm
/-- a or b, by truth -/
theorem pd_orT {d : Dt} (ha : PD X T a δ ω (.d d) ω1) (ok : d.truOk) (hb : d.tru = false → PD X T (.BoolOp .Or (b :: es) pos) δ ω1 y ω1) (hy : d.tru = true → y = .d d) : PD X T (.BoolOp .Or (a :: b :: es) pos) δ ω y ω1 := by
  obtain ⟨t, h1, h2⟩ := ha
  cases k : d.tru with
  | false =>
    obtain ⟨u, g1, g2⟩ := hb k
    refine ⟨_, pe_orT h1 g1, fun σ F H S Q q => ?_⟩
    refine h2 σ F H S _ fun v F1 H1 e1 S1 r1 => ?_
    refine ⟨false, by rw [← k]; exact Rp.tru S1.ex r1 ok, ?_⟩
    rw [if_neg Bool.false_ne_true]
    exact g2 σ F1 H1 S1 Q fun v F2 H2 e2 S2 r2 => q v F2 H2 (e1.trans e2) S2 r2
  | true =>
    refine ⟨_, pe_orT h1 pe_nev, fun σ F H S Q q => ?_⟩
    refine h2 σ F H S _ fun v F1 H1 e1 S1 r1 => ?_
    refine ⟨true, by rw [← k]; exact Rp.tru S1.ex r1 ok, ?_⟩
    rw [if_pos rfl]
    exact q v F1 H1 e1 S1 (by rw [hy k]; exact r1)
end
end Fl
/-! Fl5: raise, loops, list comprehensions. -/
namespace Fl
open PySem PySem.Spec PyProof.Rows L2

/-! ### raise X('..') -/
section
variable {X : Cx} {T : List (Addr × Str)} {XW : WX} {δ : List Sl} {ω : Om} {R : Wt} {x : Str}
/-- what raise asks of an own class over ValueError -/
structure ExcK (K : PySem.W.Frag) (mg : Str → Option Value) (x : Str) (C : Addr) : Prop where
  g : mg x = some (.ref C)
  ex : PySem.W.excIn K C [.type "ValueError", .type "Exception", .type "BaseException", .type "object"] "ValueError.__new__" = true
  kp : PySem.W.keepIn K (.ref C) = true
  sb : PySem.W.subIn K (.ref C) (.type "BaseException") = some true
  ty : PySem.W.typeIn K (.ref C) = some (.type "type")
theorem s_raise {C : Addr} {m : Str} {j : Nat} {p p2 p3 p4 : Pos} (hc : X.calm = true) (tk : Takes X XW) (E : ExcK X.K X.mg x C) (q : R.xc C ω) (hg : Gl X x := by rfl) (hdb : (x == ("__debug__" : Str)) = false := by decide) :
    S1 X T XW (.Raise (some (.Call (.Name x p) [.Constant (.str m) j p2] [] p3)) none p4) δ ω R := fun σ F H D S s =>
  ⟨_, ps_raise hc tk (pmk_own PySem.F.excBase_ValueError E.ex E.g E.kp (raises_own E.sb E.ty) hg hdb), s.xc C σ F H δ ω (Ex.refl F) S q⟩
end

/-! ### what is walked -/
structure WalkD (K : PySem.W.Frag) (T : List (Addr × Str)) (F : Hp) (J : It) (ds : List Dt) : Prop where
  go : ∀ i F1 H σ δ ω, i < ds.length → Ex F F1 → StOk K T F1 H σ δ ω → J.go i H
  stop : ∀ F1 H σ δ ω, Ex F F1 → StOk K T F1 H σ δ ω → J.stop ds.length H
  yld : ∀ i F1 H x H' σ δ ω, i < ds.length → Ex F F1 → StOk K T F1 H σ δ ω → J.yld i H x H' → ∃ F2 d, ds[i]? = some d ∧ Ex F1 F2 ∧ StOk K T F2 H' σ δ ω ∧ Rp K F2 x d
def PIt (X : Cx) (T : List (Addr × Str)) (tg iter : Expr) (δ : List Sl) (ω : Om) (ds : List Dt) (ω1 : Om) : Prop := ∃ wi : TI, PI X tg iter wi ∧ ∀ (σ : L2.St) (F H : Hp), StOk X.K T F H σ δ ω → ∀ Q : It → Hp → Prop,
  (∀ J F' H', Ex F F' → StOk X.K T F' H' σ δ ω1 → WalkD X.K T F' J ds → Q J H') → wi σ H Q
section
variable {X : Cx} {T : List (Addr × Str)} {tg e : Expr} {es : List Expr} {δ : List Sl} {ω ω1 : Om} {pos p tpos : Pos} {ds : List Dt}
theorem walk_lst {K : PySem.W.Frag} {F : Hp} {a : Addr} {vs : List V} (h : F a = some (.lst vs)) (r : RpL K F vs ds) : WalkD K T F (Itl K a) ds where
  go := fun i F1 H σ δ ω hi e S => by
    have hl := r.length
    exact ⟨vs, vs[i]'(by omega), SqL.of (S.ex _ _ (e _ _ h)), List.getElem?_eq_getElem _⟩
  stop := fun F1 H σ δ ω e S => ⟨vs, SqL.of (S.ex _ _ (e _ _ h)), by rw [r.length]; exact Nat.le_refl _⟩
  yld := fun i F1 H x H' σ δ ω hi e S y => by
    obtain ⟨rfl, y⟩ := y
    obtain ⟨d, hd, rd⟩ := r.getV (y vs (SqL.of (S.ex _ _ (e _ _ h))))
    exact ⟨F1, d, hd, Ex.refl F1, S, rd.mono e⟩
theorem walk_tup {K : PySem.W.Frag} {F : Hp} {a : Addr} {vs : List V} (h : F a = some (.tup vs)) (r : RpL K F vs ds) : WalkD K T F (Itt K a) ds where
  go := fun i F1 H σ δ ω hi e S => by
    have hl := r.length
    exact ⟨vs, vs[i]'(by omega), SqT.of (S.ex _ _ (e _ _ h)), List.getElem?_eq_getElem _⟩
  stop := fun F1 H σ δ ω e S => ⟨vs, SqT.of (S.ex _ _ (e _ _ h)), by rw [r.length]; exact Nat.le_refl _⟩
  yld := fun i F1 H x H' σ δ ω hi e S y => by
    obtain ⟨rfl, y⟩ := y
    obtain ⟨d, hd, rd⟩ := r.getV (y vs (SqT.of (S.ex _ _ (e _ _ h))))
    exact ⟨F1, d, hd, Ex.refl F1, S, rd.mono e⟩
/-- the items with their numbers -/
def enumD : Nat → List Dt → List Dt
  | _, [] => []
  | n, d :: ds => .tup [.int (n : Nat), d] :: enumD (n + 1) ds
theorem enumD_len : ∀ (n : Nat) (ds : List Dt), (enumD n ds).length = ds.length
  | _, [] => rfl
  | n, d :: ds => congrArg (· + 1) (enumD_len (n + 1) ds)
theorem enumD_get : ∀ (n : Nat) (ds : List Dt) (i : Nat) (d : Dt), ds[i]? = some d → (enumD n ds)[i]? = some (.tup [.int ((n + i : Nat) : Int), d])
  | _, [], _, _, h => by simp at h
  | n, a :: ds, 0, d, h => by
    have e : a = d := Option.some.inj h
    subst e
    rfl
  | n, a :: ds, i + 1, d, h => by
    have := enumD_get (n + 1) ds i d h
    show (enumD (n + 1) ds)[i]? = _
    rw [this, Nat.add_right_comm, Nat.add_assoc]
theorem walk_enum {K : PySem.W.Frag} {F : Hp} {a : Addr} {vs : List V} (h : F a = some (.lst vs)) (r : RpL K F vs ds) : WalkD K T F (Ite K a) (enumD 0 ds) where
  go := fun i F1 H σ δ ω hi e S => by
    rw [enumD_len] at hi
    have hl := r.length
    exact ⟨vs, vs[i]'(by omega), SqL.of (S.ex _ _ (e _ _ h)), List.getElem?_eq_getElem _⟩
  stop := fun F1 H σ δ ω e S => ⟨vs, SqL.of (S.ex _ _ (e _ _ h)), by rw [enumD_len, r.length]; exact Nat.le_refl _⟩
  yld := fun i F1 H x H' σ δ ω hi e S y => by
    obtain ⟨p, x, rfl, hp, rfl, y⟩ := y
    obtain ⟨d, hd, rd⟩ := r.getV (y vs (SqL.of (S.ex _ _ (e _ _ h))))
    have e1 : Ex F1 (upd F1 p (.tup [.int (i : Nat), x])) := S.cold_ex hp
    refine ⟨upd F1 p (.tup [.int (i : Nat), x]), .tup [.int (i : Nat), d], ?_, e1, S.cold hp (fun _ z => nomatch z), .tup upd_same (.cons (.int _) (.cons (rd.mono (e.trans e1)) .nil))⟩
    have := enumD_get 0 ds i d hd
    rw [Nat.zero_add] at this
    exact this
theorem it_lst (h : PD X T e δ ω (.d (.lst ds)) ω1) : PIt X T tg e δ ω ds ω1 := by
  obtain ⟨t, h1, h2⟩ := h
  refine ⟨_, pi_list h1, fun σ F H S Q q => ?_⟩
  refine h2 σ F H S _ fun v F1 H1 e1 S1 r1 => ?_
  have r1 : Rp X.K F1 v (.lst ds) := r1
  cases r1 with
  | lst z r => exact ⟨_, rfl, ⟨_, SqL.of (S1.ex _ _ z)⟩, q _ F1 H1 e1 S1 (walk_lst z r)⟩
theorem it_tup (h : PD X T e δ ω (.d (.tup ds)) ω1) : PIt X T tg e δ ω ds ω1 := by
  obtain ⟨t, h1, h2⟩ := h
  refine ⟨_, pi_tup h1, fun σ F H S Q q => ?_⟩
  refine h2 σ F H S _ fun v F1 H1 e1 S1 r1 => ?_
  have r1 : Rp X.K F1 v (.tup ds) := r1
  cases r1 with
  | tup z r => exact ⟨_, rfl, ⟨_, SqT.of (S1.ex _ _ z)⟩, q _ F1 H1 e1 S1 (walk_tup z r)⟩
theorem it_enum {elts : List Expr} {kk : Nat} (hm : X.mg "enumerate" = none) (h : PD X T e δ ω (.d (.lst ds)) ω1) (hg : Gl X "enumerate" := by rfl) (hs : starEach [e] X.env = [(false, eval e X.env)] := by rfl) (he : starEach (e :: []) X.env = (false, eval e X.env) :: starEach [] X.env := by rfl) :
    PIt X T (.Tuple elts kk tpos) (.Call (.Name "enumerate" p) [e] [] pos) δ ω (enumD 0 ds) ω1 := by
  obtain ⟨t, h1, h2⟩ := pl1 h he
  refine ⟨_, pi_enum hg hm h1 hs, fun σ F H S Q q => ?_⟩
  refine h2 σ F H S _ fun vs F1 H1 e1 S1 r1 => ?_
  obtain ⟨v, rfl, hv⟩ := sls1 r1
  have hv : Rp X.K F1 v (.lst ds) := hv
  cases hv with
  | lst z r => exact ⟨_, _, rfl, SqL.of (S1.ex _ _ z), q _ F1 H1 e1 S1 (walk_enum z r)⟩
end

/-! ### targets -/
/-- the target g puts an item into the slots as `as` says, the slots ix alone -/
def GA (K : PySem.W.Frag) (T : List (Addr × Str)) (g : TG) (as : Dt → List Sl → Option (List Sl)) (ix : List Nat) : Prop := ∀ (d : Dt) (v : V) (σ : L2.St) (F H : Hp) (δ δ' : List Sl) (ω : Om), as d δ = some δ' → StOk K T F H σ δ ω → Rp K F v d →
  ∀ Q : L2.St → Hp → Prop, (∀ σ', StOk K T F H σ' δ' ω → (∀ vs, (∀ i ∈ ix, i ∈ vs) → wipe σ' vs = wipe σ vs) → Q σ' H) → g v σ H Q
theorem wipe_set {i : Nat} {o : Option V} : ∀ {vs : List Nat} {σ : L2.St}, i ∈ vs → wipe (σ.set i o) vs = wipe σ vs
  | [], σ, h => by simp at h
  | v :: vs, σ, h => by
    unfold wipe
    by_cases e : v = i
    · subst e
      by_cases hm : v ∈ vs
      · rw [wipe_set hm]
      · have key : ∀ (vs : List Nat) (σ : L2.St), v ∉ vs → wipe (σ.set v o) vs = (wipe σ vs).set v o := by
          intro vs
          induction vs with
          | nil => intro σ _; rfl
          | cons w ws ih =>
            intro σ hm
            have h1 : v ≠ w := fun z => hm (by rw [z]; exact List.mem_cons_self)
            have h2 : v ∉ ws := fun z => hm (List.mem_cons_of_mem _ z)
            unfold wipe
            rw [ih σ h2, List.set_comm _ _ h1]
        rw [key vs σ hm, List.set_set]
    · have hm : i ∈ vs := by
        rcases List.mem_cons.mp h with z | z
        · exact absurd z.symm e
        · exact z
      rw [wipe_set hm]
def as1 (i : Nat) : Dt → List Sl → Option (List Sl) := fun d δ => some (δ.set i (.d d))
def as2 (i j : Nat) : Dt → List Sl → Option (List Sl) := fun d δ => match d with
  | .tup [a, b] => some ((δ.set i (.d a)).set j (.d b))
  | _ => none
theorem ga1 {K : PySem.W.Frag} {T : List (Addr × Str)} {i : Nat} : GA K T (gName i) (as1 i) [i] := by
  intro d v σ F H δ δ' ω ha S r Q q
  have e : δ.set i (.d d) = δ' := Option.some.inj ha
  subst e
  exact q _ (S.slots (S.sl.set (x := .d d) (v := some v) r i)) fun vs h => wipe_set (h i (by simp))
theorem ga2 {K : PySem.W.Frag} {T : List (Addr × Str)} {i j : Nat} : GA K T (gTup K 2 (gCons (gName i) (gCons (gName j) gNil))) (as2 i j) [i, j] := by
  intro d v σ F H δ δ' ω ha S r Q q
  cases r with
  | tup z rr =>
    cases rr with
    | nil => cases ha
    | cons ra rr =>
      cases rr with
      | nil => cases ha
      | cons rb rr =>
        cases rr with
        | cons _ _ => cases ha
        | nil =>
          rename_i va da vb db
          have e : (δ.set i (.d da)).set j (.d db) = δ' := Option.some.inj ha
          subst e
          refine ⟨_, _, rfl, SqT.of (S.ex _ _ z), rfl, _, _, rfl, _, _, rfl, rfl, ?_⟩
          refine q _ (S.slots ((S.sl.set (x := .d da) (v := some va) ra i).set (x := .d db) (v := some vb) rb j)) fun vs h => ?_
          rw [wipe_set (h j (by simp)), wipe_set (h i (by simp))]
  | _ => cases ha

/-! ### for -/
section
variable {X : Cx} {T : List (Addr × Str)} {XW : WX} {tg iter : Expr} {body : List Stmt} {δ : List Sl} {ω ω1 : Om} {pos : Pos} {ds : List Dt} {R : Wt} {g : TG} {as : Dt → List Sl → Option (List Sl)} {ix : List Nat}
theorem s_for (hp : PassesOwn (model X.prog X.w) X.A X.env X.xe) (hc : X.calm = true) (hi : PIt X T tg iter δ ω ds ω1) (hg : PG X tg g) (ha : GA X.K T g as ix) (I : Nat → List Sl → Om → Prop) (h0 : I 0 δ ω1)
    (hs : ∀ i d δ2 ω2, ds[i]? = some d → I i δ2 ω2 → ∃ δ3, as d δ2 = some δ3 ∧ SD X T XW body δ3 ω2 { R with nx := I (i + 1), ct := I (i + 1), bk := R.nx }) (hd : ∀ δ2 ω2, I ds.length δ2 ω2 → R.nx δ2 ω2)
    (hf : ∀ x, foldedSetIterable iter X.env x = pure x := by intro _; rfl) : S1 X T XW (.For tg iter body [] pos) δ ω R := by
  obtain ⟨wi, w1, w2⟩ := hi
  intro σ F H D S s
  refine ⟨_, ps_for hp hc w1 hg ss_all hf, ?_⟩
  refine w2 σ F H S _ fun J F1 H1 e1 S1 W => ?_
  refine ⟨fun i m σ' H' => m = ds.length - i ∧ i ≤ ds.length ∧ ∃ F' δ' ω', Ex F1 F' ∧ StOk X.K T F' H' σ' δ' ω' ∧ I i δ' ω', ⟨_, rfl, Nat.zero_le _, F1, δ, ω1, Ex.refl F1, S1, h0⟩, ?_⟩
  rintro i m σ' H' ⟨rfl, hi, F', δ', ω', e2, S2, hI⟩
  by_cases hlt : i < ds.length
  · refine .inr ⟨W.go i F' H' σ' δ' ω' hlt e2 S2, fun σ3 H3 => ∃ F3 δ3 ω3, Ex F1 F3 ∧ StOk X.K T F3 H3 σ3 δ3 ω3 ∧ I (i + 1) δ3 ω3, fun σ3 H3 h3 => ⟨ds.length - (i + 1), by omega, rfl, hlt, h3⟩, fun x H3 y => ?_⟩
    obtain ⟨F3, d, hd', e3, S3, r3⟩ := W.yld i F' H' x H3 σ' δ' ω' hlt e2 S2 y
    obtain ⟨δ4, ha4, hb4⟩ := hs i d δ' ω' hd' hI
    refine ha d x σ' F3 H3 δ' δ4 ω' ha4 S3 r3 _ fun σ4 S4 _ => ?_
    refine hb4 σ4 F3 H3 _ S4 ⟨fun σ5 F5 H5 δ5 ω5 e5 S5 q => ⟨F5, δ5, ω5, (e2.trans e3).trans e5, S5, q⟩, fun v σ5 F5 H5 r δ5 ω5 e5 S5 z q => s.rt v σ5 F5 H5 r δ5 ω5 (((e1.trans e2).trans e3).trans e5) S5 z q, fun σ5 F5 H5 δ5 ω5 e5 S5 q => s.nx σ5 F5 H5 δ5 ω5 (((e1.trans e2).trans e3).trans e5) S5 q, fun σ5 F5 H5 δ5 ω5 e5 S5 q => ⟨F5, δ5, ω5, (e2.trans e3).trans e5, S5, q⟩,
      fun C σ5 F5 H5 δ5 ω5 e5 S5 q => s.xc C σ5 F5 H5 δ5 ω5 (((e1.trans e2).trans e3).trans e5) S5 q⟩
  · have e : i = ds.length := by omega
    subst e
    exact .inl ⟨W.stop F' H' σ' δ' ω' e2 S2, s.nx σ' F' H' δ' ω' (e1.trans e2) S2 (hd δ' ω' hI)⟩
end

/-! ### [e for .. in .. if ..] -/
def wipeD (δ : List Sl) : List Nat → List Sl
  | [] => δ
  | v :: vs => (wipeD δ vs).set v .un
theorem wipe_ok {K : PySem.W.Frag} {F : Hp} {σ : L2.St} {δ : List Sl} (h : SlsOk K F σ δ) : ∀ vs : List Nat, SlsOk K F (wipe σ vs) (wipeD δ vs)
  | [] => h
  | v :: vs => by
    unfold wipe wipeD
    exact (wipe_ok h vs).set (x := .un) (v := none) trivial v
section
variable {X : Cx} {T : List (Addr × Str)} {XW : WX} {elt tg iter : Expr} {ifs : List Expr} {scope : Scope} {own : List (Str × Nat)} {δ : List Sl} {ω ω1 : Om} {pos : Pos} {ds : List Dt} {g : TG} {as : Dt → List Sl → Option (List Sl)} {ix : List Nat}
/-- the block of a comprehension, as it may come to run -/
abbrev Blk (X : Cx) (scope : Scope) (s : Shared) (H : Hp) (C : Addr) (cl : List (Str × Addr)) (fp : List Addr) : Cx := X.blk s H scope (compEnvC scope cl C X.env) fp
/-- the tests of a comprehension -/
def PF (X : Cx) (T : List (Addr × Str)) (ifs : List Expr) (δ : List Sl) (ω : Om) (b : Bool) : Prop := ∃ t : TT, PTs X ifs t ∧ ∀ (σ : L2.St) (F H : Hp), StOk X.K T F H σ δ ω → ∀ Q : Bool → Hp → Prop, (∀ F' H', Ex F F' → StOk X.K T F' H' σ δ ω → Q b H') → t σ H Q
theorem pf_nil : PF X T [] δ ω true := ⟨_, pts_nil, fun σ F H S Q q => q F H (Ex.refl F) S⟩
theorem pf_one {c : Expr} {b : Bool} (h : PB X T c δ ω b ω) : PF X T [c] δ ω b := by
  obtain ⟨t, h1, h2⟩ := h
  exact ⟨_, pts_one h1, h2⟩
theorem set_none_wipe {σ : L2.St} : ∀ {vs : List Nat}, (∀ i ∈ vs, σ[i]? = some none ∨ σ.length ≤ i) → wipe σ vs = σ
  | [], _ => rfl
  | v :: vs, h => by
    unfold wipe
    rw [set_none_wipe (vs := vs) (fun i hi => h i (List.mem_cons_of_mem _ hi))]
    rcases h v List.mem_cons_self with e | e
    · obtain ⟨h1, h2⟩ := List.getElem?_eq_some_iff.mp e
      rw [← h2, List.set_getElem_self]
    · exact List.set_eq_of_length_le e
theorem lc_core {F0 : Hp} {H : Hp} {σ : L2.St} {D : Addr} {J : It} {tt : TT} {te : TE} {vs : List Nat} {bt : Dt → Bool} {f : Dt → Dt} {Qd : Hp → Prop} (S : StOk X.K T F0 H σ δ ω) (hD : H D = none) (W : WalkD X.K T F0 J ds) (ha : GA X.K T g as ix) (hix : ∀ i ∈ ix, i ∈ vs) (hsz : ds.length < sizeLine)
    (hb : ∀ (i : Nat) d δ2, ds[i]? = some d → as d (wipeD δ vs) = some δ2 → ∀ (σ2 : L2.St) (F2 H2 : Hp) (ω2 : Om), StOk X.K T F2 H2 σ2 δ2 ω2 → (∀ Q : Bool → Hp → Prop, (∀ F' H', Ex F2 F' → StOk X.K T F' H' σ2 δ2 ω2 → Q (bt d) H') → tt σ2 H2 Q) ∧
      (bt d = true → ∀ Q : VK, (∀ v F' H', Ex F2 F' → StOk X.K T F' H' σ2 δ2 ω2 → Rp X.K F' v (f d) → Q v H') → te σ2 H2 Q))
    (hA : ∀ (i : Nat) d, ds[i]? = some d → ∃ δ2, as d (wipeD δ vs) = some δ2)
    (hQ : ∀ H' F', Ex F0 F' → StOk X.K T F' H' σ δ ω → Rp X.K F' (.ref D) (.lst ((ds.filter bt).map f)) → Qd H') :
    ∃ W : Nat → Nat → Hp → Prop, (∃ m, W 0 m (upd H D (.lst []))) ∧ ∀ i m H, W i m H →
      (J.stop i H ∧ Qd H) ∨ (J.go i H ∧ ∃ Nx : Hp → Prop, (∀ H', Nx H' → ∃ m', m' < m ∧ W (i + 1) m' H') ∧ ∀ x H', J.yld i H x H' → g x (wipe σ vs) H' fun σ2 H2 => wipe σ2 vs = wipe σ vs ∧ tt σ2 H2 fun b H3 =>
        if b = true then te σ2 H3 fun y H4 => ∃ acc, H4 D = some (.lst acc) ∧ acc.length < sizeLine ∧ Nx (upd H4 D (.lst (acc ++ [y]))) else Nx H3) := by
  have nD : ω D = none := S.notin hD
  -- the list so far: the object D that changes
  refine ⟨fun i m H' => m = ds.length - i ∧ i ≤ ds.length ∧ ∃ F', Ex F0 F' ∧ StOk X.K T F' H' σ δ (ω.set D (.lst (((ds.take i).filter bt).map f))), ⟨_, rfl, Nat.zero_le _, F0, Ex.refl F0, S.warm hD ⟨[], upd_same, .nil⟩⟩, ?_⟩
  rintro i m H' ⟨rfl, hi, F', e1, S1⟩
  by_cases hlt : i < ds.length
  · refine .inr ⟨W.go i F' H' σ δ _ hlt e1 S1, fun H3 => ∃ F3, Ex F0 F3 ∧ StOk X.K T F3 H3 σ δ (ω.set D (.lst (((ds.take (i + 1)).filter bt).map f))), fun H3 h3 => ⟨ds.length - (i + 1), by omega, rfl, hlt, h3⟩, fun x H3 y => ?_⟩
    obtain ⟨F3, d, hd, e3, S3, r3⟩ := W.yld i F' H' x H3 σ δ _ hlt e1 S1 y
    obtain ⟨δ2, ha2⟩ := hA i d hd
    have Sw : StOk X.K T F3 H3 (wipe σ vs) (wipeD δ vs) (ω.set D (.lst (((ds.take i).filter bt).map f))) := S3.slots (wipe_ok S3.sl vs)
    have htk : ds.take (i + 1) = ds.take i ++ [d] := by
      obtain ⟨h1, h2⟩ := List.getElem?_eq_some_iff.mp hd
      rw [List.take_succ_eq_append_getElem h1, h2]
    refine ha d x _ F3 H3 _ δ2 _ ha2 Sw r3 _ fun σ4 S4 hw => ?_
    obtain ⟨h1, h2⟩ := hb i d δ2 hd ha2 σ4 F3 H3 _ S4
    have eW : wipe σ4 vs = wipe σ vs := by
      rw [hw vs hix]
      refine set_none_wipe fun i hi => ?_
      by_cases hl : i < σ.length
      · left
        have : ∀ (vs : List Nat), i ∈ vs → (wipe σ vs)[i]? = some none := by
          intro vs
          induction vs with
          | nil => intro h; simp at h
          | cons v vs ih =>
            intro h
            unfold wipe
            by_cases e : v = i
            · subst e
              rw [List.getElem?_set_self (by rw [wipe_length]; exact hl)]
            · rw [List.getElem?_set_ne e]
              rcases List.mem_cons.mp h with z | z
              · exact absurd z.symm e
              · exact ih z
        exact this vs hi
      · right
        rw [wipe_length]
        omega
    refine ⟨eW, ?_⟩
    refine h1 _ fun F5 H5 e5 S5 => ?_
    cases k : bt d with
    | false =>
      rw [if_neg Bool.false_ne_true]
      refine ⟨F5, (e1.trans e3).trans e5, ?_⟩
      rw [htk, List.filter_append]
      have : List.filter bt [d] = [] := by rw [List.filter_cons, k]; rfl
      rw [this, List.append_nil]
      exact S5.slots (S3.sl.mono e5)
    | true =>
      rw [if_pos rfl]
      have h2' := (hb i d δ2 hd ha2 σ4 F5 H5 _ S5).2 k
      refine h2' _ fun v F6 H6 e6 S6 r6 => ?_
      obtain ⟨fD, acc, hacc, racc⟩ := S6.om D _ Om.set_same
      have hlen : acc.length < sizeLine := by
        rw [racc.length, List.length_map]
        have a1 := List.length_filter_le bt (ds.take i)
        have a2 := List.length_take_le i ds
        omega
      refine ⟨acc, hacc, hlen, F6, ((e1.trans e3).trans e5).trans e6, ?_⟩
      have hm : (((ds.take (i + 1)).filter bt).map f) = (((ds.take i).filter bt).map f) ++ [f d] := by
        rw [htk, List.filter_append, List.map_append, List.filter_cons, k]
        rfl
      have S7 := S6.write (m' := .lst (((ds.take (i + 1)).filter bt).map f)) (o := .lst (acc ++ [v])) Om.set_same ⟨acc ++ [v], upd_same, by rw [hm]; exact racc.append (.cons r6 .nil)⟩
      rw [Om.set_set] at S7
      exact S7.slots (S3.sl.mono (e5.trans e6))
  · have e : i = ds.length := by omega
    subst e
    refine .inl ⟨W.stop F' H' σ δ _ e1 S1, ?_⟩
    rw [List.take_length] at S1
    obtain ⟨F2, e2, S2, r2⟩ := S1.freeze Om.set_same
    rw [Om.del_set nD] at S2
    exact hQ H' F2 (e1.trans e2) S2 r2
/-- readings that serve every block -/
def blkT (X : Cx) (scope : Scope) (ifs : List Expr) : TT := fun σ Hh Q => ∀ (s : Shared) (H : Hp) (C : Addr) (cl : List (Str × Addr)) (fp : List Addr), ∃ u, PTs (Blk X scope s H C cl fp) ifs u ∧ u σ Hh Q
def blkE (X : Cx) (scope : Scope) (elt : Expr) : TE := fun σ Hh Q => ∀ (s : Shared) (H : Hp) (C : Addr) (cl : List (Str × Addr)) (fp : List Addr), ∃ u, PE (Blk X scope s H C cl fp) elt u ∧ u σ Hh Q
theorem lc_rd {bt : Dt → Bool} {f : Dt → Dt} {wi : TI} {σ : L2.St} {F H : Hp} {Q : VK} (w2 : ∀ (σ : L2.St) (F H : Hp), StOk X.K T F H σ δ ω → ∀ Q : It → Hp → Prop, (∀ J F' H', Ex F F' → StOk X.K T F' H' σ δ ω1 → WalkD X.K T F' J ds → Q J H') → wi σ H Q) (ha : GA X.K T g as ix)
    (hix : ∀ i ∈ ix, i ∈ own.map (·.2)) (hsz : ds.length < sizeLine)
    (hb : ∀ (s : Shared) (H : Hp) (C : Addr) (cl : List (Str × Addr)) (fp : List Addr) (i : Nat) d δ2 ω2, ds[i]? = some d → as d (wipeD δ (own.map (·.2))) = some δ2 → PF (Blk X scope s H C cl fp) T ifs δ2 ω2 (bt d) ∧ (bt d = true → PD (Blk X scope s H C cl fp) T elt δ2 ω2 (.d (f d)) ω2))
    (hA : ∀ (i : Nat) d, ds[i]? = some d → ∃ δ2, as d (wipeD δ (own.map (·.2))) = some δ2) (S : StOk X.K T F H σ δ ω) (q : ∀ v F' H', Ex F F' → StOk X.K T F' H' σ δ ω1 → Rp X.K F' v (.lst ((ds.filter bt).map f)) → Q v H') :
    tLc wi g (blkT X scope ifs) (blkE X scope elt) (own.map (·.2)) σ H Q := by
  refine w2 σ F H S _ fun J F1 H1 e1 S1 W => ?_
  intro D hD
  refine lc_core (tt := blkT X scope ifs) (te := blkE X scope elt) (bt := bt) (f := f) S1 hD W ha hix hsz (fun i d δ2 hd h2 σ2 F2 H2 ω2 S2 => ⟨fun Q2 q2 s Hx C cl fp => ?_, fun hk Q2 q2 s Hx C cl fp => ?_⟩) hA fun H' F' e2 S2 r2 => q _ F' H' (e1.trans e2) S2 r2
  · obtain ⟨⟨t, t1, t2⟩, _⟩ := hb s Hx C cl fp i d δ2 ω2 hd h2
    exact ⟨t, t1, t2 σ2 F2 H2 S2 Q2 q2⟩
  · obtain ⟨t, t1, t2⟩ := (hb s Hx C cl fp i d δ2 ω2 hd h2).2 hk
    exact ⟨t, t1, t2 σ2 F2 H2 S2 Q2 fun v F' H' e S' r => q2 v F' H' e S' r⟩
theorem blkT_ok : ∀ (s : Shared) (H : Hp) (C : Addr) (cl : List (Str × Addr)) (fp : List Addr), PTs (Blk X scope s H C cl fp) ifs (blkT X scope ifs) := fun s H C cl fp => ⟨fun pins s2 σ Hh Q I h => by
  obtain ⟨u, h1, h2⟩ := h s H C cl fp
  exact h1.run pins s2 σ Hh Q I h2⟩
theorem blkE_ok : ∀ (s : Shared) (H : Hp) (C : Addr) (cl : List (Str × Addr)) (fp : List Addr), PE (Blk X scope s H C cl fp) elt (blkE X scope elt) := fun s H C cl fp => ⟨fun pins s2 σ Hh Q I h => by
  obtain ⟨u, h1, h2⟩ := h s H C cl fp
  exact h1.run pins s2 σ Hh Q I h2⟩
theorem pd_lc {bt : Dt → Bool} {f : Dt → Dt} (hc : X.calm = true) (hN : X.N.Nodup) (hi : PIt X T tg iter δ ω ds ω1) (ok : BlkOk X.N X.env.scope scope own) (hg : ∀ (s : Shared) (H : Hp) (C : Addr) (cl : List (Str × Addr)) (fp : List Addr), PG (Blk X scope s H C cl fp) tg g) (ha : GA X.K T g as ix)
    (hix : ∀ i ∈ ix, i ∈ own.map (·.2)) (hsz : ds.length < sizeLine)
    (hb : ∀ (s : Shared) (H : Hp) (C : Addr) (cl : List (Str × Addr)) (fp : List Addr) (i : Nat) d δ2 ω2, ds[i]? = some d → as d (wipeD δ (own.map (·.2))) = some δ2 → PF (Blk X scope s H C cl fp) T ifs δ2 ω2 (bt d) ∧ (bt d = true → PD (Blk X scope s H C cl fp) T elt δ2 ω2 (.d (f d)) ω2))
    (hA : ∀ (i : Nat) d, ds[i]? = some d → ∃ δ2, as d (wipeD δ (own.map (·.2))) = some δ2) (hs : ∀ x, foldedSetIterable iter X.env x = pure x := by intro _; rfl) : PD X T (.ListComp elt [⟨tg, iter, ifs, 0⟩] scope pos) δ ω (.d (.lst ((ds.filter bt).map f))) ω1 := by
  obtain ⟨wi, w1, w2⟩ := hi
  exact ⟨_, pe_lc hc hN w1 ok hg blkT_ok blkE_ok hs, fun σ F H S Q q => lc_rd w2 ha hix hsz hb hA S q⟩
/-- y = [..] -/
theorem s_setLc {R : Wt} {i : Nat} {y : Str} {py spos : Pos} {bt : Dt → Bool} {f : Dt → Dt} (hc : X.calm = true) (hN : X.N.Nodup) (hy : X.N[i]? = some y) (hyl : X.env.scope.names.lookup y = some .local) (hsw : swapsWith (.ListComp elt [⟨tg, iter, ifs, 0⟩] scope pos) (some (.Name y py)) spos.line X.env = pure true)
    (hi : PIt X T tg iter δ ω ds ω1) (ok : BlkOk X.N X.env.scope scope own) (hg : ∀ (s : Shared) (H : Hp) (C : Addr) (cl : List (Str × Addr)) (fp : List Addr), PG (Blk X scope s H C cl fp) tg g) (ha : GA X.K T g as ix)
    (hix : ∀ i ∈ ix, i ∈ own.map (·.2)) (hsz : ds.length < sizeLine)
    (hb : ∀ (s : Shared) (H : Hp) (C : Addr) (cl : List (Str × Addr)) (fp : List Addr) (i : Nat) d δ2 ω2, ds[i]? = some d → as d (wipeD δ (own.map (·.2))) = some δ2 → PF (Blk X scope s H C cl fp) T ifs δ2 ω2 (bt d) ∧ (bt d = true → PD (Blk X scope s H C cl fp) T elt δ2 ω2 (.d (f d)) ω2))
    (hA : ∀ (i : Nat) d, ds[i]? = some d → ∃ δ2, as d (wipeD δ (own.map (·.2))) = some δ2) (q : R.nx (δ.set i (.d (.lst ((ds.filter bt).map f)))) ω1) (hs : ∀ x, foldedSetIterable iter X.env x = pure x := by intro _; rfl) :
    S1 X T XW (.Assign [.Name y py] (.ListComp elt [⟨tg, iter, ifs, 0⟩] scope pos) spos) δ ω R := by
  obtain ⟨wi, w1, w2⟩ := hi
  exact fun σ F H D S s => ⟨_, ps_setLc hc hN hy hyl hsw w1 ok hg blkT_ok blkE_ok hs, lc_rd w2 ha hix hsz hb hA S fun v F' H' e1 S1 r1 => s.nx _ F' H' _ ω1 e1 (S1.slots (S1.sl.set (x := .d _) (v := some v) r1 i)) q⟩
end
end Fl
/-! Fl6: defs that may raise; short forms of their calls; facts of built-in names. -/
namespace Fl
open PySem PySem.Spec PyProof.Rows L2
inductive Res where
  | ok (d : Dt) | er (C : Addr)
def Res.post (ω : Om) (P : Sl → Om → Prop) (RX : Addr → Om → Prop) : Res → Prop
  | .ok y => P (.d y) ω
  | .er C => RX C ω
/-- a plain function of data that may refuse -/
def rF (G : List Dt → Option Res) : FSp := fun as ω P RX => ∃ xs r, as = xs.map Sl.d ∧ G xs = some r ∧ r.post ω P RX
section
variable {X : Cx} {T : List (Addr × Str)} {XW : WX} {a b c e : Expr} {es : List Expr} {δ δ' : List Sl} {ω ω1 ω2 ω3 : Om} {r : Sl} {pos p : Pos} {R : Wt} {x : Str} {CX : CXT} {k n : Nat} {xs : List Dt} {y : Dt} {G : List Dt → Option Res} {P : Sl → Om → Prop} {RX : Addr → Om → Prop}
/-- a call that surely does not raise -/
theorem ce (C : Cal X.prog X.w X.K X.mg X.base CX T k x n (rF G)) (hr : Room k X.A) (tk : TkC CX X XN) (ha : PL X T (e :: es) δ ω (xs.map Sl.d) ω1) (q : G xs = some (.ok y)) (hn : xs.length = n := by rfl) (hg : Gl X x := by rfl)
    (hdb : (x == ("__debug__" : Str)) = false := by decide) (he : starEach (e :: es) X.env = (false, eval e X.env) :: starEach es X.env := by rfl) (hpl : (backTo pos (starEach es X.env)).any (·.1) = false := by rfl) : PD X T (.Call (.Name x p) (e :: es) [] pos) δ ω (.d y) ω1 := by
  obtain ⟨f, fd, ps, Gf, hm, hk, hb⟩ := C.ex
  exact pd_call Gf hr hm hk hb tk ha (by rw [List.length_map]; exact hn) ⟨xs, _, rfl, q, rfl, rfl⟩ hg hdb he hpl
/-- a call that may raise -/
theorem cex {rr : Res} (C : Cal X.prog X.w X.K X.mg X.base CX T k x n (rF G)) (hr : Room k X.A) (tk : TkC CX X XW) (ha : PL X T (e :: es) δ ω (xs.map Sl.d) ω1) (q : G xs = some rr) (h : rr.post ω1 P RX) (hn : xs.length = n := by rfl) (hg : Gl X x := by rfl)
    (hdb : (x == ("__debug__" : Str)) = false := by decide) (he : starEach (e :: es) X.env = (false, eval e X.env) :: starEach es X.env := by rfl) (hpl : (backTo pos (starEach es X.env)).any (·.1) = false := by rfl) : PX X T XW (.Call (.Name x p) (e :: es) [] pos) δ ω P RX := by
  obtain ⟨f, fd, ps, Gf, hm, hk, hb⟩ := C.ex
  exact px_call Gf hr hm hk hb tk ha (by rw [List.length_map]; exact hn) ⟨xs, rr, rfl, q, h⟩ hg hdb he hpl
/-- a call by a relation -/
theorem cr {g : List Dt → Dt → Prop} (C : Cal X.prog X.w X.K X.mg X.base CX T k x n (pureR g)) (hr : Room k X.A) (tk : TkC CX X XN) (ha : PL X T (e :: es) δ ω (xs.map Sl.d) ω1) (q : g xs y) (hn : xs.length = n := by rfl) (hg : Gl X x := by rfl)
    (hdb : (x == ("__debug__" : Str)) = false := by decide) (he : starEach (e :: es) X.env = (false, eval e X.env) :: starEach es X.env := by rfl) (hpl : (backTo pos (starEach es X.env)).any (·.1) = false := by rfl) : PD X T (.Call (.Name x p) (e :: es) [] pos) δ ω (.d y) ω1 := by
  obtain ⟨f, fd, ps, Gf, hm, hk, hb⟩ := C.ex
  exact pd_call Gf hr hm hk hb tk ha (by rw [List.length_map]; exact hn) ⟨xs, _, rfl, q, rfl, rfl⟩ hg hdb he hpl
theorem s_doc {x : Str} {j} {p2 : Pos} (h : R.nx δ ω) : S1 X T XW (.Expr (.Constant (.str x) j p2) pos) δ ω R := fun σ F H D S s => ⟨_, ps_doc, s.nx σ F H δ ω (Ex.refl F) S h⟩
/-- a, b = e, by places -/
theorem su (i j : Nat) {y2 : Str} {p1 p2 p3 : Pos} {kk} {d1 d2 : Dt} (h : PD X T e δ ω (.d (.tup [d1, d2])) ω1) (q : R.nx ((δ.set i (.d d1)).set j (.d d2)) ω1) (hcm : X.calm = true := by rfl) (hN : X.N.Nodup := by first | assumption | exact FnScope.nd (by assumption)) (hi : X.N[i]? = some x := by rfl) (hx : Loc X.env.scope x := by first | exact Or.inl rfl | exact Or.inr rfl)
    (hj : X.N[j]? = some y2 := by rfl) (hy : Loc X.env.scope y2 := by first | exact Or.inl rfl | exact Or.inr rfl) (hs : swapsWithSole [.Tuple [.Name x p1, .Name y2 p2] kk p3] e pos.line X.env = pure false := by rfl)
    (hw : swappedStores [.Tuple [.Name x p1, .Name y2 p2] kk p3] e X.env = pure none := by rfl)
    (hf : X.fn x = true ∨ X.env.scope.names.lookup x = some .local := by first | exact .inl rfl | exact .inr rfl | assumption) (hf2 : X.fn y2 = true ∨ X.env.scope.names.lookup y2 = some .local := by first | exact .inl rfl | exact .inr rfl | assumption) :
    S1 X T XW (.Assign [.Tuple [.Name x p1, .Name y2 p2] kk p3] e pos) δ ω R := s_un2 hcm hN hi hx hj hy h q hs hw hf hf2
end
/-- the built-in names that the text leaves alone -/
structure Bt (mg : Str → Option Value) : Prop where
  type : mg "type" = none
  int : mg "int" = none
  bool : mg "bool" = none
  str : mg "str" = none
  list : mg "list" = none
  tuple : mg "tuple" = none
  len : mg "len" = none
  isinstance : mg "isinstance" = none
  sorted : mg "sorted" = none
  max : mg "max" = none
  min : mg "min" = none
  enumerate : mg "enumerate" = none
  range : mg "range" = none
  zip : mg "zip" = none
theorem tyb_int : bootBuiltins "int" = some (.type "int") := by decide +kernel
theorem tyb_bool : bootBuiltins "bool" = some (.type "bool") := by decide +kernel
theorem tyb_str : bootBuiltins "str" = some (.type "str") := by decide +kernel
theorem tyb_list : bootBuiltins "list" = some (.type "list") := by decide +kernel
theorem tyb_tuple : bootBuiltins "tuple" = some (.type "tuple") := by decide +kernel
/-- == may be asked of small flat data -/
theorem eqs_int {i : Int} : Eqs (.int i) := ⟨rfl, rfl⟩
theorem eqs_bl {i : Bool} : Eqs (.bl i) := ⟨rfl, rfl⟩
theorem eqs_non : Eqs .non := ⟨rfl, rfl⟩
end Fl
/-! Fl7: max and min of a list of ints, with a default for the empty one. -/
namespace Fl
open PySem PySem.Spec PyProof.Rows L2
/-- a call of a built-in function with keywords, whose code may go on in a loop of its own -/
theorem call_kw_on {prog : Program} {w : World} {A : Around} {E : Value → Shared → Prop} {s : Shared} {id : String} {b : Builtin} {us : List Value} {kw : List (Str × Value)} {Q : Value → Shared → Prop} (hk : builtinKind id = none) (hp : plainId id = true) (hb : entryFor table id = some b) (ha : argsOk id ⟨us, kw⟩)
    (hc : wpAny (model prog w) A.in1 (b ⟨us, kw⟩) (fun fin s1 => match fin with
      | .done f => (match (Except.ok f : Result) with | .ok (.ret v) => Q v s1 | .ok _ => False | .error e => E e s1)
      | .again c => c.quiet = true ∧ codeAny (model prog w) A c (fun r s2 => match r with | .ok (.ret v) => Q v s2 | .ok _ => False | .error e => E e s2) s1) E s) : wpAny (model prog w) A (call (.builtin id) us kw) Q E s := by
  refine wpAny_call (codeAny_call_builtin hp hb ?_); simp only [checkBuiltinCall, hk]
  cases sg : Manifest.signature? id with
  | none => exact wpAny_pure hc
  | some g =>
    have ck : Bind.checkArgs id g ⟨us, kw⟩ = pure () := by simpa only [argsOk, sg] using ha
    simp only [ck]; exact wpAny_pure hc

/-! ### max -/
section
variable {prog : Program} {w : World} {A : Around} {R : Result → Shared → Prop} {I : Addr} {fp wr : List Addr} {n : Nat} {P : Nat → Value → Prop} {St : Nat → Heap → Prop} {kw : List (Str × Value)}
theorem max_turns (W : Walks prog w A.in1 I fp wr n P St) (bt : Nat → Nat → Bool) (hcmp : CmpOf prog w A.in1 .Gt P bt) (L : Addr) (hL : L ∉ fp) : ∀ (k j : Nat) (s : Shared) (u : Value) (c : Nat), n - (j + 1) = k → j + 1 ≤ n → St (j + 1) s.heap → P (argBest bt j) u → s.heap.get? L = some { cls := .type "list", dict := none, data := .seq #[u, u] c, slots := #[] } →
    (∀ v g tk, P (argBest bt (n - 1)) v → (∀ b o, b ∉ wr → b ≠ L → s.heap.get? b = some o → g.get? b = some o) → R (.ok (.ret v)) { s with heap := g, toks := tk }) → codeAny (model prog w) A (.builtin "max.loop" ⟨[.ref I, .none, .ref L], kw⟩) R s := by
  have nw : L ∉ wr := fun z => hL (W.sub _ z)
  have nm : (toString "max" ++ toString ".loop" : String) = "max.loop" := by decide
  intro k; induction k with
  | zero =>
    intro j s u c ek hj st hP hLs hR
    have lst : j + 1 = n := by omega
    refine codeAny_builtin F.entry_max_loop ?_; rw [Around.under_plainId F.plain_max_loop _]
    show wpAny _ A.in1 (seqItems? (.ref L) >>= _) _ _ s; refine wpAny_bind (wpAny_seqItems hLs rfl ?_)
    show wpAny _ A.in1 (tryCatch (pyNext (.ref I)) _ >>= _) _ _ s; refine wpAny_bind (wpAny_tryCatch (W.done s _ _ (lst ▸ st) fun g tk kk => ?_))
    have hL2 := kk L _ nw hLs
    show wpAny _ A.in1 (updateSeq L (fun _ => #[]) >>= _) _ _ _; refine wpAny_bind ?_
    refine wpAny_updateSeq hL2 rfl (wpAny_bind (wpAny_letGo (wpAny_pure ?_))); exact hR u _ tk (by rw [← lst]; exact hP) fun b o hb hn e => (Heap.get?_update_other _ _ (Ne.symm hn)).trans (kk b o hb e)
  | succ k ih =>
    intro j s u c ek hj st hP hLs hR
    have lt : j + 1 < n := by omega
    refine codeAny_builtin F.entry_max_loop ?_; rw [Around.under_plainId F.plain_max_loop _]
    show wpAny _ A.in1 (seqItems? (.ref L) >>= _) _ _ s; refine wpAny_bind (wpAny_seqItems hLs rfl ?_)
    show wpAny _ A.in1 (tryCatch (pyNext (.ref I)) _ >>= _) _ _ s; refine wpAny_bind (wpAny_tryCatch (W.item (j + 1) s _ _ lt st fun v g tk hv st2 kk => ?_))
    have hL2 := kk L _ nw hLs
    show wpAny _ A.in1 (tryCatch (holding [v, v] (richCompare .Gt v u >>= _)) _ >>= _) _ _ _; refine wpAny_bind (wpAny_tryCatch (wpAny_holding (wpAny_bind (hcmp (j + 1) (argBest bt j) v u _ _ _ hv hP ?_))))
    refine wpAny_bind (wpAny_holding (wpAny_truthy_bool ?_)); refine wpAny_bind (wpAny_letGo (wpAny_pure ?_))
    cases hb : bt (j + 1) (argBest bt j) with
    | true =>
      simp only [if_true]; refine wpAny_bind ?_
      refine wpAny_updateSeq hL2 rfl (wpAny_bind (wpAny_letGo ?_)); rw [nm]
      refine wpAny_pure ⟨plainId_quiet F.plain_max_loop _, ih (j + 1) _ v _ (by omega) lt (W.frame _ _ _ st2 fun b hf o e => ?_) (by simp only [argBest, hb, if_true]; exact hv) (Heap.get?_update_self _ hL2 rfl) fun v2 g2 tk2 hP2 kk2 => hR v2 g2 tk2 hP2 fun b o hw hn e => kk2 b o hw hn ((Heap.get?_update_other _ _ (Ne.symm hn)).trans (kk b o hw e))⟩
      exact (Heap.get?_update_other _ _ (fun z : L = b => hL (by rw [z]; exact hf))).trans e
    | false =>
      simp only [Bool.false_eq_true, if_false]; refine wpAny_bind (wpAny_letGo ?_); rw [nm]
      exact wpAny_pure ⟨plainId_quiet F.plain_max_loop _, ih (j + 1) _ u c (by omega) lt st2 (by simp only [argBest, hb, Bool.false_eq_true, if_false]; exact hP) hL2 fun v2 g2 tk2 hP2 kk2 => hR v2 g2 tk2 hP2 fun b o hw hn e => kk2 b o hw hn (kk b o hw e)⟩
theorem max_first (W : Walks prog w A.in1 I fp wr n P St) (bt : Nat → Nat → Bool) (hcmp : CmpOf prog w A.in1 .Gt P bt) (L : Addr) (hL : L ∉ fp) (hn : 0 < n) {s : Shared} {c : Nat} (st : St 0 s.heap) (hLs : s.heap.get? L = some { cls := .type "list", dict := none, data := .seq #[] c, slots := #[] })
    (hR : ∀ v g tk, P (argBest bt (n - 1)) v → (∀ b o, b ∉ wr → b ≠ L → s.heap.get? b = some o → g.get? b = some o) → R (.ok (.ret v)) { s with heap := g, toks := tk }) : codeAny (model prog w) A (.builtin "max.loop" ⟨[.ref I, .none, .ref L], kw⟩) R s := by
  have nw : L ∉ wr := fun z => hL (W.sub _ z)
  have nm : (toString "max" ++ toString ".loop" : String) = "max.loop" := by decide
  refine codeAny_builtin F.entry_max_loop ?_; rw [Around.under_plainId F.plain_max_loop _]
  show wpAny _ A.in1 (seqItems? (.ref L) >>= _) _ _ s; refine wpAny_bind (wpAny_seqItems hLs rfl ?_)
  show wpAny _ A.in1 (tryCatch (pyNext (.ref I)) _ >>= _) _ _ s; refine wpAny_bind (wpAny_tryCatch (W.item 0 s _ _ hn st fun v g tk hv st2 kk => ?_))
  have hL2 := kk L _ nw hLs
  show wpAny _ A.in1 (updateSeq L (fun _ => #[v, v]) >>= _) _ _ _; refine wpAny_bind ?_
  refine wpAny_updateSeq hL2 rfl ?_; rw [nm]
  refine wpAny_pure ⟨plainId_quiet F.plain_max_loop _, max_turns W bt hcmp L hL _ 0 _ v _ rfl hn (W.frame _ _ _ st2 fun b hf o e => ?_) hv (Heap.get?_update_self _ hL2 rfl) fun v2 g2 tk2 hP2 kk2 => hR v2 g2 tk2 hP2 fun b o hw hx e => kk2 b o hw hx ((Heap.get?_update_other _ _ (Ne.symm hx)).trans (kk b o hw e))⟩
  exact (Heap.get?_update_other _ _ (fun z : L = b => hL (by rw [z]; exact hf))).trans e
/-- nothing to walk: the default -/
theorem max_none (W : Walks prog w A.in1 I fp wr n P St) (L : Addr) (hL : L ∉ fp) (hn : n = 0) {s : Shared} {c : Nat} {nk : Str} {dv : Value} {kr : List (Str × Value)} (st : St 0 s.heap) (hLs : s.heap.get? L = some { cls := .type "list", dict := none, data := .seq #[] c, slots := #[] })
    (hR : ∀ g tk, (∀ b o, b ∉ wr → s.heap.get? b = some o → g.get? b = some o) → R (.ok (.ret dv)) { s with heap := g, toks := tk }) : codeAny (model prog w) A (.builtin "max.loop" ⟨[.ref I, .none, .ref L], (nk, dv) :: kr⟩) R s := by
  refine codeAny_builtin F.entry_max_loop ?_; rw [Around.under_plainId F.plain_max_loop _]
  show wpAny _ A.in1 (seqItems? (.ref L) >>= _) _ _ s; refine wpAny_bind (wpAny_seqItems hLs rfl ?_)
  show wpAny _ A.in1 (tryCatch (pyNext (.ref I)) _ >>= _) _ _ s; refine wpAny_bind (wpAny_tryCatch (W.done s _ _ (hn ▸ st) fun g tk kk => ?_))
  refine wpAny_bind (wpAny_rule (wpAny_pure ?_)); exact hR g tk kk
end
section
variable {prog : Program} {w : World} {A : Around} {E : Value → Shared → Prop} {s : Shared}
theorem args_maxD (a b : Value) : argsOk "max" ⟨[a], [(Str.ofString "default", b)]⟩ := by unfold argsOk; kernel_rfl
theorem call_maxD {x dv : Value} {Q : Value → Shared → Prop}
    (h : wpAny (model prog w) A.in1 (pyIter x) (fun it t => ∃ I fp wr n P St bt, it = .ref I ∧ Walks prog w A.in1 I fp wr n P St ∧ St 0 t.heap ∧ (∀ b ∈ fp, b < t.heap.objs.size) ∧ CmpOf prog w A.in1 .Gt P bt ∧
      (0 < n → ∀ v g tk, P (argBest bt (n - 1)) v → (∀ b o, b ∉ wr → t.heap.get? b = some o → g.get? b = some o) → Q v { t with heap := g, toks := tk }) ∧
      (n = 0 → ∀ g tk, (∀ b o, b ∉ wr → t.heap.get? b = some o → g.get? b = some o) → Q dv { t with heap := g, toks := tk })) E s) : wpAny (model prog w) A (call (.builtin "max") [x] [(Str.ofString "default", dv)]) Q E s := by
  have nm : (toString "max" ++ toString ".loop" : String) = "max.loop" := by decide
  refine call_kw_on F.kind_max F.plain_max F.entry_max (args_maxD _ _) ?_
  show wpAny _ A.in1 (Builtin.Builtins.bindParams "max" ["key", "default"] 0 ⟨[], [(Str.ofString "default", dv)]⟩ >>= _) _ _ s
  refine wpAny_bind (wpAny_of_eq (show Builtin.Builtins.bindParams "max" ["key", "default"] 0 ⟨[], [(Str.ofString "default", dv)]⟩ = pure [none, some dv] from by first | rfl | kernel_rfl) ?_)
  refine wpAny_bind (wpAny_pure ?_); refine wpAny_bind (wpAny_mono h (fun it t ht => ?_) fun _ _ e => e)
  obtain ⟨I, fp, wr, n, P, St, bt, rfl, W, st, hfp, hcmp, h1, h0⟩ := ht
  refine wpAny_bind (wpAny_newObj_type ?_)
  have nf : t.heap.objs.size ∉ fp := fun hm => Nat.lt_irrefl _ (hfp _ hm)
  rw [nm]
  have stp := W.frame _ _ _ st fun b _ o e => Heap.get?_push_of_some { cls := .type "list", data := .seq #[] } e
  have up : ∀ g : Heap, (∀ b o, b ∉ wr → b ≠ t.heap.objs.size → (t.heap.push { cls := .type "list", data := .seq #[] }).get? b = some o → g.get? b = some o) → ∀ b o, b ∉ wr → t.heap.get? b = some o → g.get? b = some o := fun g k b o hb e => k b o hb (Nat.ne_of_lt (Heap.lt_size e)) (Heap.get?_push_of_some _ e)
  by_cases hn : 0 < n
  · exact wpAny_pure ⟨plainId_quiet F.plain_max_loop _, max_first W bt hcmp t.heap.objs.size nf hn stp (Heap.get?_push_size _ rfl) fun v g tk hP kk => h1 hn v g tk hP (up g kk)⟩
  · exact wpAny_pure ⟨plainId_quiet F.plain_max_loop _, max_none W t.heap.objs.size nf (by omega) stp (Heap.get?_push_size _ rfl) fun g tk kk => h0 (by omega) g tk (up g fun b o hb _ e => kk b o hb e)⟩
/-- over a list of ints -/
theorem maxD_raw {l : Addr} {its : List Value} {ns : List Int} {dv : Value} {Q : Value → Shared → Prop} (hh : A.handled = none) (hl : s.heap.IsList l its.toArray) (hi : IntsAre its ns)
    (h1 : 0 < ns.length → ∀ g tk M t, (∀ b o, s.heap.get? b = some o → g.get? b = some o) → M ∈ ns → (∀ a, a ∈ ns → a ≤ M) → Q (.int M t) { s with heap := g, toks := tk })
    (h0 : ns = [] → ∀ g tk, (∀ b o, s.heap.get? b = some o → g.get? b = some o) → Q dv { s with heap := g, toks := tk }) : wpAny (model prog w) A (call (.builtin "max") [.ref l] [(Str.ofString "default", dv)]) Q E s := by
  obtain ⟨xs, e⟩ := hi.allInts.items
  have hn : numsOf (intItems xs).toList = ns := by rw [← e]; exact hi.numsOf
  rw [nums_intItems] at hn; subst hn; rw [e] at hl
  refine call_maxD (iter_intList hl fun t et st hfp hlI => ?_); subst et
  refine ⟨_, _, _, _, _, _, _, rfl, Walks.list (A := A.in1) hh _ l hlI (intItems xs), st, hfp, CmpOf.ints_gt (numAt xs) (fun _ _ => intItems_at), fun hs v g tk hP kk => ?_, fun hs g tk kk => ?_⟩
  · have hsz : 0 < xs.size := by simpa [intItems] using hs
    have hP : (intItems xs)[argBest (fun i j => decide (numAt xs i > numAt xs j)) (xs.size - 1)]? = some v := by simpa [intItems] using hP
    obtain ⟨t, rfl⟩ := intItems_at hP
    obtain ⟨k1, k2⟩ := argBest_gt (numAt xs) (xs.size - 1)
    refine h1 (by simpa using hsz) g tk _ t (old_kept kk) ?_ fun a ha => ?_
    · rw [numAt_eq]; exact PySem.getD_mem (by rw [List.length_map, Array.length_toList]; omega)
    · obtain ⟨j, hj, rfl⟩ := mem_getD ha; rw [List.length_map, Array.length_toList] at hj
      rw [← numAt_eq]; exact k2 j (by omega)
  · have hsz : xs.size = 0 := by simpa [intItems] using hs
    refine h0 ?_ g tk (old_kept kk)
    have hx : xs.toList = [] := List.length_eq_zero_iff.mp (by rw [Array.length_toList]; exact hsz)
    rw [hx]; rfl
end
section
variable {X : Cx}
def rMaxD (K : PySem.W.Frag) : List V → List V → Hp → VK → Prop := fun vs zs H Q => ∃ (a : Addr) (ns : List Int), vs = [V.ref a] ∧ zs = [.non] ∧ SqL K H a (ns.map V.int) ∧ (0 < ns.length → ∀ m, m ∈ ns → (∀ a, a ∈ ns → a ≤ m) → Q (.int m) H) ∧ (ns = [] → Q .non H)
theorem cr_maxD (hc : X.calm = true) : CallRK X (.builtin "max") [Str.ofString "default"] (rMaxD X.K) := by
  intro pins s σ H vs zs us ws Q I r rz h
  obtain ⟨a, ns, rfl, rfl, hs, q1, q0⟩ := h
  obtain ⟨its, rv, hl, _⟩ := I.list hs
  obtain rfl := Vals.ref1 r
  obtain ⟨w1, rfl, e1⟩ := vals1 rz
  obtain rfl : w1 = Value.none := e1
  exact maxD_raw (I.ok.hd hc) hl.isList rv.ints (fun hn g tk M t kk hm ha => ⟨.int M, H, I.kept kk, ⟨_, rfl⟩, q1 hn M hm ha⟩) fun he g tk kk => ⟨.non, H, I.kept kk, rfl, q0 he⟩
end
section
variable {X : Cx} {T : List (Addr × Str)} {e : Expr} {δ : List Sl} {ω ω1 : Om} {pos p p3 p4 : Pos}
/-- max(e, default=None) -/
def maxN : List Int → Dt
  | [] => .non
  | n :: ns => .int (ns.foldl (fun a b => if a < b then b else a) n)
theorem maxN_is {ns : List Int} {m : Int} (hm : m ∈ ns) (ha : ∀ a, a ∈ ns → a ≤ m) : maxN ns = .int m := by
  match ns, hm with
  | n :: ns, hm =>
    have key : ∀ (ns : List Int) (n m : Int), m ∈ n :: ns → (∀ a, a ∈ n :: ns → a ≤ m) → ns.foldl (fun a b => if a < b then b else a) n = m := by
      intro ns; induction ns with
      | nil =>
        intro n m hm _
        have : m = n := by simpa using hm
        exact this.symm
      | cons b ns ih =>
        intro n m hm ha
        show ns.foldl _ (if n < b then b else n) = m
        refine ih _ m ?_ fun a h2 => ?_
        · have h1 := ha n (by simp)
          have h2 := ha b (by simp)
          rcases List.mem_cons.mp hm with z | z
          · subst z; split
            · exact absurd ‹_› (by omega)
            · simp
          · rcases List.mem_cons.mp z with z | z
            · subst z; split
              · simp
              · have : m = n := by omega
                rw [this]; simp
            · exact List.mem_cons_of_mem _ z
        · rcases List.mem_cons.mp h2 with z | z
          · rw [z]; split
            · exact ha b (by simp)
            · exact ha n (by simp)
          · exact ha a (by simp [z])
    exact congrArg Dt.int (key ns n m hm ha)
theorem pd_maxD {ns : List Int} {j} {kp : Pos} (hcm : X.calm = true) (hm : X.mg "max" = none) (ha : PD X T e δ ω (.d (.lst (ns.map Dt.int))) ω1) (hg : Gl X "max" := by rfl) (hs : starEach (e :: []) X.env = (false, eval e X.env) :: starEach [] X.env := by rfl)
    (he : backTo pos (starEach (e :: []) X.env) = (false, eval e X.env) :: backTo pos (starEach [] X.env) := by rfl) (hpl : (backTo pos (starEach (e :: []) X.env)).any (·.1) = false := by rfl)
    (hall : (backToKw pos (keywordEach [⟨some "default", .Constant .none j p3, kp⟩] X.env)).all (·.1.isSome) = true := by rfl) (hnone : (backToKw pos (keywordEach [⟨some "default", .Constant .none j p3, kp⟩] X.env)).any (·.1.isNone) = false := by rfl) (hks : (backToKw pos (keywordEach [⟨some "default", .Constant .none j p3, kp⟩] X.env)).filterMap (·.1) = [Str.ofString "default"] := by rfl) :
    PD X T (.Call (.Name "max" p) [e] [⟨some "default", .Constant .none j p3, kp⟩] pos) δ ω (.d (maxN ns)) ω1 := by
  obtain ⟨t, h1, h2⟩ := pl1 ha hs
  refine ⟨_, pe_callBK (cr_maxD hcm) hg hm (by decide +kernel) h1 (pk_cons pe_non pk_nil) (by decide) (by decide) he hpl hall hnone hks, fun σ F H S Q q => ?_⟩
  refine h2 σ F H S _ fun vs F1 H1 e1 S1 r1 => ?_
  obtain ⟨v, rfl, hv⟩ := sls1 r1
  have hv : Rp X.K F1 v (.lst (ns.map Dt.int)) := hv
  cases hv with
  | lst z r =>
    have ev := r.ints
    subst ev
    refine ⟨_, ns, rfl, rfl, SqL.of (S1.ex _ _ z), fun _ m hmm hall => ?_, fun he => ?_⟩
    · exact q _ F1 H1 e1 S1 (by rw [maxN_is hmm hall]; exact Rp.int m)
    · subst he; exact q _ F1 H1 e1 S1 Rp.non
end

/-! ### min -/
section
variable {prog : Program} {w : World} {A : Around} {R : Result → Shared → Prop} {I : Addr} {fp wr : List Addr} {n : Nat} {P : Nat → Value → Prop} {St : Nat → Heap → Prop} {kw : List (Str × Value)}
theorem min_turns (W : Walks prog w A.in1 I fp wr n P St) (bt : Nat → Nat → Bool) (hcmp : CmpOf prog w A.in1 .Lt P bt) (L : Addr) (hL : L ∉ fp) : ∀ (k j : Nat) (s : Shared) (u : Value) (c : Nat), n - (j + 1) = k → j + 1 ≤ n → St (j + 1) s.heap → P (argBest bt j) u → s.heap.get? L = some { cls := .type "list", dict := none, data := .seq #[u, u] c, slots := #[] } →
    (∀ v g tk, P (argBest bt (n - 1)) v → (∀ b o, b ∉ wr → b ≠ L → s.heap.get? b = some o → g.get? b = some o) → R (.ok (.ret v)) { s with heap := g, toks := tk }) → codeAny (model prog w) A (.builtin "min.loop" ⟨[.ref I, .none, .ref L], kw⟩) R s := by
  have nw : L ∉ wr := fun z => hL (W.sub _ z)
  have nm : (toString "min" ++ toString ".loop" : String) = "min.loop" := by decide
  intro k; induction k with
  | zero =>
    intro j s u c ek hj st hP hLs hR
    have lst : j + 1 = n := by omega
    refine codeAny_builtin F.entry_min_loop ?_; rw [Around.under_plainId F.plain_min_loop _]
    show wpAny _ A.in1 (seqItems? (.ref L) >>= _) _ _ s; refine wpAny_bind (wpAny_seqItems hLs rfl ?_)
    show wpAny _ A.in1 (tryCatch (pyNext (.ref I)) _ >>= _) _ _ s; refine wpAny_bind (wpAny_tryCatch (W.done s _ _ (lst ▸ st) fun g tk kk => ?_))
    have hL2 := kk L _ nw hLs
    show wpAny _ A.in1 (updateSeq L (fun _ => #[]) >>= _) _ _ _; refine wpAny_bind ?_
    refine wpAny_updateSeq hL2 rfl (wpAny_bind (wpAny_letGo (wpAny_pure ?_))); exact hR u _ tk (by rw [← lst]; exact hP) fun b o hb hn e => (Heap.get?_update_other _ _ (Ne.symm hn)).trans (kk b o hb e)
  | succ k ih =>
    intro j s u c ek hj st hP hLs hR
    have lt : j + 1 < n := by omega
    refine codeAny_builtin F.entry_min_loop ?_; rw [Around.under_plainId F.plain_min_loop _]
    show wpAny _ A.in1 (seqItems? (.ref L) >>= _) _ _ s; refine wpAny_bind (wpAny_seqItems hLs rfl ?_)
    show wpAny _ A.in1 (tryCatch (pyNext (.ref I)) _ >>= _) _ _ s; refine wpAny_bind (wpAny_tryCatch (W.item (j + 1) s _ _ lt st fun v g tk hv st2 kk => ?_))
    have hL2 := kk L _ nw hLs
    show wpAny _ A.in1 (tryCatch (holding [v, v] (richCompare .Lt v u >>= _)) _ >>= _) _ _ _; refine wpAny_bind (wpAny_tryCatch (wpAny_holding (wpAny_bind (hcmp (j + 1) (argBest bt j) v u _ _ _ hv hP ?_))))
    refine wpAny_bind (wpAny_holding (wpAny_truthy_bool ?_)); refine wpAny_bind (wpAny_letGo (wpAny_pure ?_))
    cases hb : bt (j + 1) (argBest bt j) with
    | true =>
      simp only [if_true]; refine wpAny_bind ?_
      refine wpAny_updateSeq hL2 rfl (wpAny_bind (wpAny_letGo ?_)); rw [nm]
      refine wpAny_pure ⟨plainId_quiet F.plain_min_loop _, ih (j + 1) _ v _ (by omega) lt (W.frame _ _ _ st2 fun b hf o e => ?_) (by simp only [argBest, hb, if_true]; exact hv) (Heap.get?_update_self _ hL2 rfl) fun v2 g2 tk2 hP2 kk2 => hR v2 g2 tk2 hP2 fun b o hw hn e => kk2 b o hw hn ((Heap.get?_update_other _ _ (Ne.symm hn)).trans (kk b o hw e))⟩
      exact (Heap.get?_update_other _ _ (fun z : L = b => hL (by rw [z]; exact hf))).trans e
    | false =>
      simp only [Bool.false_eq_true, if_false]; refine wpAny_bind (wpAny_letGo ?_); rw [nm]
      exact wpAny_pure ⟨plainId_quiet F.plain_min_loop _, ih (j + 1) _ u c (by omega) lt st2 (by simp only [argBest, hb, Bool.false_eq_true, if_false]; exact hP) hL2 fun v2 g2 tk2 hP2 kk2 => hR v2 g2 tk2 hP2 fun b o hw hn e => kk2 b o hw hn (kk b o hw e)⟩
theorem min_first (W : Walks prog w A.in1 I fp wr n P St) (bt : Nat → Nat → Bool) (hcmp : CmpOf prog w A.in1 .Lt P bt) (L : Addr) (hL : L ∉ fp) (hn : 0 < n) {s : Shared} {c : Nat} (st : St 0 s.heap) (hLs : s.heap.get? L = some { cls := .type "list", dict := none, data := .seq #[] c, slots := #[] })
    (hR : ∀ v g tk, P (argBest bt (n - 1)) v → (∀ b o, b ∉ wr → b ≠ L → s.heap.get? b = some o → g.get? b = some o) → R (.ok (.ret v)) { s with heap := g, toks := tk }) : codeAny (model prog w) A (.builtin "min.loop" ⟨[.ref I, .none, .ref L], kw⟩) R s := by
  have nw : L ∉ wr := fun z => hL (W.sub _ z)
  have nm : (toString "min" ++ toString ".loop" : String) = "min.loop" := by decide
  refine codeAny_builtin F.entry_min_loop ?_; rw [Around.under_plainId F.plain_min_loop _]
  show wpAny _ A.in1 (seqItems? (.ref L) >>= _) _ _ s; refine wpAny_bind (wpAny_seqItems hLs rfl ?_)
  show wpAny _ A.in1 (tryCatch (pyNext (.ref I)) _ >>= _) _ _ s; refine wpAny_bind (wpAny_tryCatch (W.item 0 s _ _ hn st fun v g tk hv st2 kk => ?_))
  have hL2 := kk L _ nw hLs
  show wpAny _ A.in1 (updateSeq L (fun _ => #[v, v]) >>= _) _ _ _; refine wpAny_bind ?_
  refine wpAny_updateSeq hL2 rfl ?_; rw [nm]
  refine wpAny_pure ⟨plainId_quiet F.plain_min_loop _, min_turns W bt hcmp L hL _ 0 _ v _ rfl hn (W.frame _ _ _ st2 fun b hf o e => ?_) hv (Heap.get?_update_self _ hL2 rfl) fun v2 g2 tk2 hP2 kk2 => hR v2 g2 tk2 hP2 fun b o hw hx e => kk2 b o hw hx ((Heap.get?_update_other _ _ (Ne.symm hx)).trans (kk b o hw e))⟩
  exact (Heap.get?_update_other _ _ (fun z : L = b => hL (by rw [z]; exact hf))).trans e
/-- nothing to walk: the default -/
theorem min_none (W : Walks prog w A.in1 I fp wr n P St) (L : Addr) (hL : L ∉ fp) (hn : n = 0) {s : Shared} {c : Nat} {nk : Str} {dv : Value} {kr : List (Str × Value)} (st : St 0 s.heap) (hLs : s.heap.get? L = some { cls := .type "list", dict := none, data := .seq #[] c, slots := #[] })
    (hR : ∀ g tk, (∀ b o, b ∉ wr → s.heap.get? b = some o → g.get? b = some o) → R (.ok (.ret dv)) { s with heap := g, toks := tk }) : codeAny (model prog w) A (.builtin "min.loop" ⟨[.ref I, .none, .ref L], (nk, dv) :: kr⟩) R s := by
  refine codeAny_builtin F.entry_min_loop ?_; rw [Around.under_plainId F.plain_min_loop _]
  show wpAny _ A.in1 (seqItems? (.ref L) >>= _) _ _ s; refine wpAny_bind (wpAny_seqItems hLs rfl ?_)
  show wpAny _ A.in1 (tryCatch (pyNext (.ref I)) _ >>= _) _ _ s; refine wpAny_bind (wpAny_tryCatch (W.done s _ _ (hn ▸ st) fun g tk kk => ?_))
  refine wpAny_bind (wpAny_rule (wpAny_pure ?_)); exact hR g tk kk
end
section
variable {prog : Program} {w : World} {A : Around} {E : Value → Shared → Prop} {s : Shared}
theorem args_minD (a b : Value) : argsOk "min" ⟨[a], [(Str.ofString "default", b)]⟩ := by unfold argsOk; kernel_rfl
theorem call_minD {x dv : Value} {Q : Value → Shared → Prop}
    (h : wpAny (model prog w) A.in1 (pyIter x) (fun it t => ∃ I fp wr n P St bt, it = .ref I ∧ Walks prog w A.in1 I fp wr n P St ∧ St 0 t.heap ∧ (∀ b ∈ fp, b < t.heap.objs.size) ∧ CmpOf prog w A.in1 .Lt P bt ∧
      (0 < n → ∀ v g tk, P (argBest bt (n - 1)) v → (∀ b o, b ∉ wr → t.heap.get? b = some o → g.get? b = some o) → Q v { t with heap := g, toks := tk }) ∧
      (n = 0 → ∀ g tk, (∀ b o, b ∉ wr → t.heap.get? b = some o → g.get? b = some o) → Q dv { t with heap := g, toks := tk })) E s) : wpAny (model prog w) A (call (.builtin "min") [x] [(Str.ofString "default", dv)]) Q E s := by
  have nm : (toString "min" ++ toString ".loop" : String) = "min.loop" := by decide
  refine call_kw_on F.kind_min F.plain_min F.entry_min (args_minD _ _) ?_
  show wpAny _ A.in1 (Builtin.Builtins.bindParams "min" ["key", "default"] 0 ⟨[], [(Str.ofString "default", dv)]⟩ >>= _) _ _ s
  refine wpAny_bind (wpAny_of_eq (show Builtin.Builtins.bindParams "min" ["key", "default"] 0 ⟨[], [(Str.ofString "default", dv)]⟩ = pure [none, some dv] from by first | rfl | kernel_rfl) ?_)
  refine wpAny_bind (wpAny_pure ?_); refine wpAny_bind (wpAny_mono h (fun it t ht => ?_) fun _ _ e => e)
  obtain ⟨I, fp, wr, n, P, St, bt, rfl, W, st, hfp, hcmp, h1, h0⟩ := ht
  refine wpAny_bind (wpAny_newObj_type ?_)
  have nf : t.heap.objs.size ∉ fp := fun hm => Nat.lt_irrefl _ (hfp _ hm)
  rw [nm]
  have stp := W.frame _ _ _ st fun b _ o e => Heap.get?_push_of_some { cls := .type "list", data := .seq #[] } e
  have up : ∀ g : Heap, (∀ b o, b ∉ wr → b ≠ t.heap.objs.size → (t.heap.push { cls := .type "list", data := .seq #[] }).get? b = some o → g.get? b = some o) → ∀ b o, b ∉ wr → t.heap.get? b = some o → g.get? b = some o := fun g k b o hb e => k b o hb (Nat.ne_of_lt (Heap.lt_size e)) (Heap.get?_push_of_some _ e)
  by_cases hn : 0 < n
  · exact wpAny_pure ⟨plainId_quiet F.plain_min_loop _, min_first W bt hcmp t.heap.objs.size nf hn stp (Heap.get?_push_size _ rfl) fun v g tk hP kk => h1 hn v g tk hP (up g kk)⟩
  · exact wpAny_pure ⟨plainId_quiet F.plain_min_loop _, min_none W t.heap.objs.size nf (by omega) stp (Heap.get?_push_size _ rfl) fun g tk kk => h0 (by omega) g tk (up g fun b o hb _ e => kk b o hb e)⟩
/-- over a list of ints -/
theorem minD_raw {l : Addr} {its : List Value} {ns : List Int} {dv : Value} {Q : Value → Shared → Prop} (hh : A.handled = none) (hl : s.heap.IsList l its.toArray) (hi : IntsAre its ns)
    (h1 : 0 < ns.length → ∀ g tk M t, (∀ b o, s.heap.get? b = some o → g.get? b = some o) → M ∈ ns → (∀ a, a ∈ ns → M ≤ a) → Q (.int M t) { s with heap := g, toks := tk })
    (h0 : ns = [] → ∀ g tk, (∀ b o, s.heap.get? b = some o → g.get? b = some o) → Q dv { s with heap := g, toks := tk }) : wpAny (model prog w) A (call (.builtin "min") [.ref l] [(Str.ofString "default", dv)]) Q E s := by
  obtain ⟨xs, e⟩ := hi.allInts.items
  have hn : numsOf (intItems xs).toList = ns := by rw [← e]; exact hi.numsOf
  rw [nums_intItems] at hn; subst hn; rw [e] at hl
  refine call_minD (iter_intList hl fun t et st hfp hlI => ?_); subst et
  refine ⟨_, _, _, _, _, _, _, rfl, Walks.list (A := A.in1) hh _ l hlI (intItems xs), st, hfp, CmpOf.ints_lt (numAt xs) (fun _ _ => intItems_at), fun hs v g tk hP kk => ?_, fun hs g tk kk => ?_⟩
  · have hsz : 0 < xs.size := by simpa [intItems] using hs
    have hP : (intItems xs)[argBest (fun i j => decide (numAt xs i < numAt xs j)) (xs.size - 1)]? = some v := by simpa [intItems] using hP
    obtain ⟨t, rfl⟩ := intItems_at hP
    obtain ⟨k1, k2⟩ := argBest_lt (numAt xs) (xs.size - 1)
    refine h1 (by simpa using hsz) g tk _ t (old_kept kk) ?_ fun a ha => ?_
    · rw [numAt_eq]; exact PySem.getD_mem (by rw [List.length_map, Array.length_toList]; omega)
    · obtain ⟨j, hj, rfl⟩ := mem_getD ha; rw [List.length_map, Array.length_toList] at hj
      rw [← numAt_eq]; exact k2 j (by omega)
  · have hsz : xs.size = 0 := by simpa [intItems] using hs
    refine h0 ?_ g tk (old_kept kk)
    have hx : xs.toList = [] := List.length_eq_zero_iff.mp (by rw [Array.length_toList]; exact hsz)
    rw [hx]; rfl
end
section
variable {X : Cx}
def rMinD (K : PySem.W.Frag) : List V → List V → Hp → VK → Prop := fun vs zs H Q => ∃ (a : Addr) (ns : List Int), vs = [V.ref a] ∧ zs = [.non] ∧ SqL K H a (ns.map V.int) ∧ (0 < ns.length → ∀ m, m ∈ ns → (∀ a, a ∈ ns → m ≤ a) → Q (.int m) H) ∧ (ns = [] → Q .non H)
theorem cr_minD (hc : X.calm = true) : CallRK X (.builtin "min") [Str.ofString "default"] (rMinD X.K) := by
  intro pins s σ H vs zs us ws Q I r rz h
  obtain ⟨a, ns, rfl, rfl, hs, q1, q0⟩ := h
  obtain ⟨its, rv, hl, _⟩ := I.list hs
  obtain rfl := Vals.ref1 r
  obtain ⟨w1, rfl, e1⟩ := vals1 rz
  obtain rfl : w1 = Value.none := e1
  exact minD_raw (I.ok.hd hc) hl.isList rv.ints (fun hn g tk M t kk hm ha => ⟨.int M, H, I.kept kk, ⟨_, rfl⟩, q1 hn M hm ha⟩) fun he g tk kk => ⟨.non, H, I.kept kk, rfl, q0 he⟩
end
section
variable {X : Cx} {T : List (Addr × Str)} {e : Expr} {δ : List Sl} {ω ω1 : Om} {pos p p3 p4 : Pos}
/-- min(e, default=None) -/
def minN : List Int → Dt
  | [] => .non
  | n :: ns => .int (ns.foldl (fun a b => if b < a then b else a) n)
theorem minN_is {ns : List Int} {m : Int} (hm : m ∈ ns) (ha : ∀ a, a ∈ ns → m ≤ a) : minN ns = .int m := by
  match ns, hm with
  | n :: ns, hm =>
    have key : ∀ (ns : List Int) (n m : Int), m ∈ n :: ns → (∀ a, a ∈ n :: ns → m ≤ a) → ns.foldl (fun a b => if b < a then b else a) n = m := by
      intro ns; induction ns with
      | nil =>
        intro n m hm _
        have : m = n := by simpa using hm
        exact this.symm
      | cons b ns ih =>
        intro n m hm ha
        show ns.foldl _ (if b < n then b else n) = m
        refine ih _ m ?_ fun a h2 => ?_
        · have h1 := ha n (by simp)
          have h2 := ha b (by simp)
          rcases List.mem_cons.mp hm with z | z
          · subst z; split
            · exact absurd ‹_› (by omega)
            · simp
          · rcases List.mem_cons.mp z with z | z
            · subst z; split
              · simp
              · have : m = n := by omega
                rw [this]; simp
            · exact List.mem_cons_of_mem _ z
        · rcases List.mem_cons.mp h2 with z | z
          · rw [z]; split
            · exact ha b (by simp)
            · exact ha n (by simp)
          · exact ha a (by simp [z])
    exact congrArg Dt.int (key ns n m hm ha)
theorem pd_minD {ns : List Int} {j} {kp : Pos} (hcm : X.calm = true) (hm : X.mg "min" = none) (ha : PD X T e δ ω (.d (.lst (ns.map Dt.int))) ω1) (hg : Gl X "min" := by rfl) (hs : starEach (e :: []) X.env = (false, eval e X.env) :: starEach [] X.env := by rfl)
    (he : backTo pos (starEach (e :: []) X.env) = (false, eval e X.env) :: backTo pos (starEach [] X.env) := by rfl) (hpl : (backTo pos (starEach (e :: []) X.env)).any (·.1) = false := by rfl)
    (hall : (backToKw pos (keywordEach [⟨some "default", .Constant .none j p3, kp⟩] X.env)).all (·.1.isSome) = true := by rfl) (hnone : (backToKw pos (keywordEach [⟨some "default", .Constant .none j p3, kp⟩] X.env)).any (·.1.isNone) = false := by rfl) (hks : (backToKw pos (keywordEach [⟨some "default", .Constant .none j p3, kp⟩] X.env)).filterMap (·.1) = [Str.ofString "default"] := by rfl) :
    PD X T (.Call (.Name "min" p) [e] [⟨some "default", .Constant .none j p3, kp⟩] pos) δ ω (.d (minN ns)) ω1 := by
  obtain ⟨t, h1, h2⟩ := pl1 ha hs
  refine ⟨_, pe_callBK (cr_minD hcm) hg hm (by decide +kernel) h1 (pk_cons pe_non pk_nil) (by decide) (by decide) he hpl hall hnone hks, fun σ F H S Q q => ?_⟩
  refine h2 σ F H S _ fun vs F1 H1 e1 S1 r1 => ?_
  obtain ⟨v, rfl, hv⟩ := sls1 r1
  have hv : Rp X.K F1 v (.lst (ns.map Dt.int)) := hv
  cases hv with
  | lst z r =>
    have ev := r.ints
    subst ev
    refine ⟨_, ns, rfl, rfl, SqL.of (S1.ex _ _ z), fun _ m hmm hall => ?_, fun he => ?_⟩
    · exact q _ F1 H1 e1 S1 (by rw [minN_is hmm hall]; exact Rp.int m)
    · subst he; exact q _ F1 H1 e1 S1 Rp.non
end
end Fl
/-! Fl8: an exception that an except suite keeps in a name, and what isinstance says of it. -/
namespace Fl
open PySem PySem.Spec PyProof.Rows L2
section
variable {X : Cx} {pins : List (Addr × Obj)} {σ : L2.St} {H : Hp} {s : Shared}
/-- an exception's object that nobody tracked is tracked from now on -/
theorem inv_track {a C : Addr} {oe : Obj} {vs : Array Value} (I : Inv X pins σ H s) (ha : s.heap.get? a = some oe) (hz : Zc (.ref C) none oe) (hd : oe.data = .fields vs) (na : H a = none) (nL : a ≠ X.env.locals) (np : ∀ p ∈ X.pn ++ pins, p.1 ≠ a)
    (h0 : ∀ o, X.s_0.heap.get? a = some o → X.H_0 a = none → a ∈ X.ex) : Inv X pins σ (upd H a (ExO C a)) s := by
  have ne : ∀ b u, H b = some u → b ≠ a := fun b u e => ne_of_none e na
  refine ⟨I.ok, I.os, I.bare, ⟨I.base.keep, I.base.slot, fun b o e n hx => ?_, I.base.there, fun b xs e => ?_, fun b o u e => ?_, fun b ps e => ?_⟩, I.loc, I.cell, ?_, fun x c e => ?_, fun p hp => ?_, fun b u e => ?_, I.len⟩
  · rw [upd_ne (fun z => hx (by rw [z] at e n ⊢; exact h0 o e n))]
    exact I.base.free b o e n hx
  · have q := I.base.tups b xs e
    rw [upd_ne (ne b _ q)]
    exact q
  · have q := I.base.frzs b o u e
    rw [upd_ne (ne b _ q)]
    exact q
  · obtain ⟨m, q⟩ := I.base.tbls b ps e
    exact ⟨m, by rw [upd_ne (ne b _ q)]; exact q⟩
  · rw [upd_ne (Ne.symm nL)]
    exact I.free
  · have : c ≠ a := fun z => by
      obtain ⟨v, o, ho, hc⟩ := I.cell x c e
      rw [z, ha] at ho
      cases ho
      rw [hd] at hc
      cases hc
    rw [upd_ne this]
    exact I.freeC x c e
  · obtain ⟨e, n, k1, k2, k3⟩ := I.pin p hp
    exact ⟨e, by rw [upd_ne (np p hp)]; exact n, k1, k2, k3⟩
  · by_cases hb : b = a
    · rw [hb, upd_same] at e
      cases e
      rw [hb]
      exact ⟨⟨oe, vs, ha, hz, hd⟩, ⟨oe, ha⟩, fun h1 h2 ⟨o, v, q1, q2, q3⟩ st => ⟨o, v, st o q1, q2, q3⟩⟩
    · rw [upd_ne hb] at e
      exact (I.hok b u e).stay (fun c v _ q => q) (fun c q => by rw [upd_ne (ne c _ q)]; exact q) fun c xs q => by rw [upd_ne (ne c _ q)]; exact q
end
/-- what a try wishes of its body's exceptions whose only clause keeps them: slot i the clause's name, j the name that keeps it -/
def wKeep (K : PySem.W.Frag) (c : Value) (i j n : Nat) (D : Ends) : WX := fun cls d σ H => PySem.W.exmOne K cls c = some true ∧ d = none ∧ ∃ C, cls = .ref C ∧ (σ.length = n → ∀ a, H a = none → D.nx (((σ.set i (some (.ref a))).set j (some (.ref a))).set i none) (upd H a (ExO C a)))
section
variable {X : Cx} {x n k : Str} {c : Value} {i j : Nat} {body : List Stmt} {np pos pos' p1 p2 p3 : Pos} {tb : WX → TS}
theorem ps_keep (hs : X.stack = X.env :: X.outer) (hf : X.env.frame = some X.env.locals) (hN : X.N.Nodup) (hi : X.N[i]? = some n) (hln : X.env.kindOf n = some .local) (hj : X.N[j]? = some k) (hlk : X.env.kindOf k = some .local) (hc : Names X x c)
    (hb : ∀ (W : WX) (pn : List (Addr × Obj)) (xe : Value → Shared → Prop), Takes (X.tr pn xe) W → PassesOwn (model X.prog X.w) X.A X.env xe → PSs (X.tr pn xe) body (tb W)) (hd1 : (n == ("__debug__" : Str)) = false := by decide) (hd2 : (n == ("__classdict__" : Str)) = false := by decide)
    (hsw : swapsWith (.Name n p2) (some (.Name k p1)) p3.line X.env = pure false := by rfl) :
    PS X (.Try body [.ExceptHandler (some (.Name x np)) (some n) [.Assign [.Name k p1] (.Name n p2) p3] pos'] [] [] pos) (fun D σ H => tb (wKeep X.K c i j X.N.length D) D σ H) := by
  refine ⟨fun pins s σ H D I h => ?_⟩
  have ok := I.ok; have hfr : X.A.frames = some (X.env :: X.outer) := by rw [ok.frames, hs]
  refine wpAny_Try_except ?_
  refine wpAny_mono ((hb (wKeep X.K c i j X.N.length D) (X.pn ++ pins) (fun e s1 => wpAny (model X.prog X.w) X.A (noteFrame e X.env) (fun _ s2 => wpAny (model X.prog X.w) X.A (setFlight e none) (fun _ s3 => wpAny (model X.prog X.w) X.A (handleBy e X.env [.ExceptHandler (some (.Name x np)) (some n) [.Assign [.Name k p1] (.Name n p2) p3] pos']) (SP X pins D) X.xe s3) X.xe s2) X.xe s1) (fun u s' xx => ?_) PassesOwn.looking).run [] s σ H D (I.toTry _) h) (fun f s1 hsp => ?_) (fun e s1 he => he)
  · obtain ⟨a, B, sI, pin2, σ', H', cls, d, rfl, J', nb, up, sky, na, os, ag, hexm, rfl, C, rfl, hyes⟩ := xx
    have J : Inv X pins σ' H' sI := J'.ofTry ok
    have sky2 : Sky B (X.env :: X.outer) a (Zc (.ref C) none) X.env.locals s'.heap := by rw [← hs]; exact sky
    show wpAny (model X.prog X.w) X.A (noteFrame (.ref a) X.env) _ _ _; refine Sky.land Zc.steady hfr hf sky2 fun h3 fl3 up3 => ?_
    have J3 : Inv X pins σ' H' { s' with heap := h3 } := J.landed nb fl3.1 (up.trans up3) os ag
    obtain ⟨oe3, vs3, he3, hz3, hd3⟩ := fl3.there
    have aB : B.get? a = none := fl3.2.1
    have nfr : a ∉ frs (X.env :: X.outer) := fun hm => by
      obtain ⟨_, o, e', hnf⟩ := fl3.2.2.1.mem hm; rw [he3] at e'; cases e'; exact hnf _ hd3
    have nL : a ≠ X.env.locals := fun z => nfr (List.mem_filterMap.mpr ⟨X.env, List.mem_cons_self, by rw [hf, z]⟩)
    have nF : a ∉ X.fs := fun hm => by
      obtain ⟨e, he, q⟩ := List.mem_filterMap.mp hm; exact nfr (List.mem_filterMap.mpr ⟨e, List.mem_cons_of_mem _ he, q⟩)
    have nst : a ∉ frs X.stack := by rw [hs]; exact nfr
    -- the exception is newer than what stood at the entry, and no pin
    have aI : sI.heap.get? a = none := by
      cases q : sI.heap.get? a with
      | none => rfl
      | some o => have z := nb a o q nst; rw [aB] at z; cases z
    have h0 : ∀ o, X.s_0.heap.get? a = some o → X.H_0 a = none → a ∈ X.ex := fun o e n0 => by
      by_cases hx : a ∈ X.ex
      · exact hx
      · have z := J.base.keep a o e n0 nF hx; rw [aI] at z; cases z
    have npin : ∀ p ∈ X.pn ++ pins, p.1 ≠ a := fun p hp z => by
      have q := (J.pin p hp).1; rw [z, aI] at q; cases q
    have S3 := J3.suite he3 hd3 na nL nF
    refine wpAny_handleBy_cons (codeAny_handlers_test ?_) (by intro q; cases q)
    have LT : PySem.W.Looks (model X.prog X.w) h3 (typeOf (.ref a)) (.ref C) := fun A Q E s k q => wpAny_typeOf_ref (k _ _ he3) (by rw [hz3.1]; exact q)
    have LM := PySem.W.exm_one (M := model X.prog X.w) (J3.kIn) LT hexm
    have test : ∀ {Q : Value → Shared → Prop} {E : Value → Shared → Prop}, Q c { s' with heap := h3 } → wpAny (model X.prog X.w) (X.A.mark (some (.ref a))) (eval (.Name x np) X.env) Q E { s' with heap := h3 } := fun {Q E} q => by
      obtain ⟨hg, hdbg, hm | ⟨hm, hv, hnn⟩⟩ := hc
      · exact ld_glob (X := X.suite a ((a, oe3) :: (X.pn ++ pins))) S3 hg hm q hdbg
      · exact ld_blt (X := X.suite a ((a, oe3) :: (X.pn ++ pins))) S3 hg hm hv q hnn hdbg
    refine test (LM.here ?_); refine codeAny_handlers_suite_as ?_; refine HandSPX.lands_againZ fl3 fun h4 fl4 up4 => ?_
    have J4 : Inv X pins σ' H' { s' with heap := h4 } := J.landed nb fl4.1 ((up.trans up3).trans up4) os ag
    obtain ⟨oe4, vs4, he4, hz4, hd4⟩ := fl4.there
    have S4 := J4.suite he4 hd4 na nL nF
    have len4 : σ'.length = X.N.length := J4.len
    refine store_ok (X := X.suite a ((a, oe4) :: (X.pn ++ pins))) (v := .ref a) S4 hN hi (.inl hln) rfl (fun s5 S5 => ?_) (.inr hln)
    have hi4 : i < σ'.length := by rw [len4]; exact (List.getElem?_eq_some_iff.mp hi).1
    have body2 : PSs (X.suite a ((a, oe4) :: (X.pn ++ pins))) [.Assign [.Name k p1] (.Name n p2) p3] (tAsg (tVar i) (gName j)) := pss_one (ps_set hN hj (.inl hlk) (pe_var hi (.inl hln) hd1 hd2) hsw (hf := .inr hlk))
    refine wpAny_mono (body2.run [] s5 (σ'.set i (some (.ref a))) H' { nx := fun σ6 H6 => σ6 = (σ'.set i (some (.ref a))).set j (some (.ref a)) ∧ H6 = H', rt := fun _ _ => False } S5 ⟨.ref a, List.getElem?_set_self hi4, rfl, rfl⟩) (fun f s6 hsp => ?_) (fun _ _ z => False.elim z)
    cases f with
    | next =>
      obtain ⟨σ6, H6, S6, rfl, rfl⟩ := hsp
      have J6 : Inv X (pins ++ [(a, oe4)]) ((σ'.set i (some (.ref a))).set j (some (.ref a))) H6 s6 := ⟨ok, S6.os, S6.bare, S6.base, S6.loc, S6.cell, S6.free, S6.freeC, fun p hp => S6.pin p (by
        rw [List.append_nil]
        rcases List.mem_append.mp hp with z | z
        · exact List.mem_cons_of_mem _ (List.mem_append_left _ z)
        · rcases List.mem_append.mp z with z | z
          · exact List.mem_cons_of_mem _ (List.mem_append_right _ z)
          · rw [List.mem_singleton.mp z]; exact List.mem_cons_self), S6.hok, S6.len⟩
      refine gone_ok J6 hN hi hln fun s7 J7 => ?_
      obtain ⟨he7, na7, _, _, _⟩ := J7.pin (a, oe4) (List.mem_append_right _ (List.mem_append_right _ (by simp)))
      have J8 : Inv X pins (((σ'.set i (some (.ref a))).set j (some (.ref a))).set i none) H6 s7 := ⟨ok, J7.os, J7.bare, J7.base, J7.loc, J7.cell, J7.free, J7.freeC, fun p hp => J7.pin p (by
        rcases List.mem_append.mp hp with z | z
        · exact List.mem_append_left _ z
        · exact List.mem_append_right _ (List.mem_append_left _ z)), J7.hok, J7.len⟩
      exact ⟨_, _, inv_track J8 he7 hz4 hd4 na7 nL npin h0, hyes len4 a na7⟩
    | brk => obtain ⟨_, _, _, q⟩ := hsp; exact q.elim
    | cont => obtain ⟨_, _, _, q⟩ := hsp; exact q.elim
    | ret u => obtain ⟨_, _, _, _, _, q⟩ := hsp; exact q.elim
  · cases f with
    | next => obtain ⟨σ', H', J', q⟩ := hsp; exact wpAny_execs_nil ⟨σ', H', J'.ofTry ok, q⟩
    | brk => obtain ⟨σ', H', J', q⟩ := hsp; exact ⟨σ', H', J'.ofTry ok, q⟩
    | cont => obtain ⟨σ', H', J', q⟩ := hsp; exact ⟨σ', H', J'.ofTry ok, q⟩
    | ret u => obtain ⟨v, σ', H', J', r, q⟩ := hsp; exact ⟨v, σ', H', J'.ofTry ok, r, q⟩
end
end Fl
/-! Fl9: a def that does a deed, a lambda, and hands back what was raised; isinstance of that. -/
namespace Fl
open PySem PySem.Spec PyProof.Rows L2
open LamX (lamCx lamEnv LamS lamS_by TabB Tabs ExtN CodeO GivesTo pe_lamcall tLam)
/-- what the def makes of the deed's reading -/
def TKept (K : PySem.W.Frag) (CE : Addr) : (XK → Hp → VK → Prop) → Hp → VK → Prop := fun tl H Q =>
  tl (fun cls d H' => PySem.W.exmOne K cls (.ref CE) = some true ∧ d = none ∧ ∃ C, cls = .ref C ∧ ∀ a, H' a = none → Q (.ref a) (upd H' a (ExO C a))) H fun _ H' => Q .non H'
theorem kept_gives {X : Cx} {Ng : List Str} {x a n k e q : Str} {sg : Scope} {g CE : Addr} {cdg : Value} {i j jc : Nat} {q1 q2 q3 p1 p2 p3 np p4 p5 p6 p7 p8 p9 p10 : Pos} (hN : Ng.Nodup) (hi : Ng[i]? = some n) (hln : sg.names.lookup n = some .local) (hj : Ng[j]? = some k) (hlk : sg.names.lookup k = some .local) (hij : i ≠ j) (hj0 : j ≠ 0)
    (hge : sg.names.lookup e = some .globalImplicit) (hme : X.mg e = some (.ref CE)) (hde : (e == ("__debug__" : Str)) = false := by decide) (hd1 : (n == ("__debug__" : Str)) = false := by decide) (hd2 : (n == ("__classdict__" : Str)) = false := by decide) (hd3 : (k == ("__debug__" : Str)) = false := by decide) (hd4 : (k == ("__classdict__" : Str)) = false := by decide)
    (sw1 : ∀ Y : Env, swapsWith (.Name n p5) (some (.Name k p4)) p6.line Y = pure false := by intro _; rfl) (sw2 : ∀ Y : Env, swapsWith (.Constant .none jc q2) (some (.Name k q1)) q3.line Y = pure false := by intro _; rfl) :
    GivesTo X Ng x sg g cdg [.Assign [.Name k q1] (.Constant .none jc q2) q3, .Try [.Expr (.Call (.Name a p1) [] [] p2) p3] [.ExceptHandler (some (.Name e np)) (some n) [.Assign [.Name k p4] (.Name n p5) p6] p7] [] [] p8, .Return (some (.Name k p9)) p10] a q (TKept X.K CE) := by
  intro f c' s H Q tl act hc h
  have hgl : Gl (cxOf C8.CX0 X.prog X.w X.K X.mg X.base Ng x sg g cdg X.A X.stack s H C8.E0).nox e := hge
  have hjl : j < Ng.length := (List.getElem?_eq_some_iff.mp hj).1
  have sl : (L2.start Ng [V.ref f]).length = Ng.length := by
    unfold L2.start
    simp only [List.length_append, List.length_map, List.length_replicate, List.length_cons, List.length_nil]
    omega
  refine ⟨_, pss_cons (ps_set (X := (cxOf C8.CX0 X.prog X.w X.K X.mg X.base Ng x sg g cdg X.A X.stack s H C8.E0).nox) hN hj (.inl hlk) pe_non (sw2 _) (hf := .inr hlk)) (pss_cons (ps_keep (X := (cxOf C8.CX0 X.prog X.w X.K X.mg X.base Ng x sg g cdg X.A X.stack s H C8.E0).nox) (c := .ref CE)
      (tb := fun W D σ H => ∃ Ech : XK, (∀ cls d σ' H', Ech cls d H' → W cls d σ' H') ∧ σ[0]? = some (some (.ref f)) ∧ H c' = some (CodeO c' q) ∧ tl Ech H fun _ H' => D.nx σ H')
      rfl rfl hN hi hln hj hlk ⟨hgl, hde, .inl hme⟩ (fun W pn xe tk _ => ?_) hd1 hd2 (sw1 _)) (pss_one (ps_ret (pe_var hj (.inl hlk) hd3 hd4)))), ?_⟩
  · refine ⟨fun pins s' σ H' D I h' => ?_⟩
    obtain ⟨Ech, hW, h1, h2, h3⟩ := h'
    exact (pss_one (ps_expr (act W pn xe Ech p1 p2 tk hW))).run pins s' σ H' D I ⟨h1, h2, h3⟩
  · refine ⟨fun cls d H' => PySem.W.exmOne X.K cls (.ref CE) = some true ∧ d = none ∧ ∃ C, cls = .ref C ∧ ∀ a, H' a = none → Q (.ref a) (upd H' a (ExO C a)), fun cls d σ' H' ⟨e1, e2, C, e3, e4⟩ => ⟨e1, e2, C, e3, fun hl a ha => ?_⟩, ?_, hc, ?_⟩
    · have hl : σ'.length = Ng.length := hl
      refine ⟨.ref a, ?_, e4 a ha⟩
      rw [List.getElem?_set_ne hij, List.getElem?_set_self (by rw [List.length_set, hl]; exact hjl)]
    · rw [List.getElem?_set_ne hj0]
      rfl
    · refine cast (congrArg (tl _ H) ?_) h
      funext _ H'
      refine propext ⟨fun hq => ⟨.non, List.getElem?_set_self (by rw [sl]; exact hjl), hq⟩, fun ⟨v, e, hq⟩ => ?_⟩
      have e' := (List.getElem?_set_self (by rw [sl]; exact hjl)).symm.trans e
      cases e'
      exact hq
section
variable {K : PySem.W.Frag} {T : List (Addr × Str)} {F H H1 : Hp} {σ : L2.St} {δ : List Sl} {ω : Om}
/-- tables alone have grown -/
theorem StOk.tabs (S : StOk K T F H σ δ ω) (e : ExtN H H1) (t : Tabs T H1) : StOk K T F H1 σ δ ω :=
  ⟨fun a o h => e a o (S.ex a o h) fun ps z => S.nt a ps (by rw [← z]; exact h), S.nt, t, S.sl, fun a m h => by
    obtain ⟨h1, h2⟩ := S.om a m h
    refine ⟨h1, ?_⟩
    cases m with
    | lst ds =>
      obtain ⟨vs, q, r⟩ := h2
      exact ⟨vs, e a _ q (fun _ z => nomatch z), r⟩
    | ins C fs =>
      obtain ⟨dx, vs, q, r⟩ := h2
      exact ⟨dx, vs, e a _ q (fun _ z => nomatch z), r⟩⟩
end
theorem exO_tbl {C a : Addr} : ∀ ps, ExO C a ≠ .tbl ps := fun ps z => by
  unfold ExO at z
  cases z
/-- the def that keeps: where it stands, and its body -/
structure KeptDef (K : PySem.W.Frag) (mg : Str → Option Value) (x : Str) (CE : Addr) : Prop where
  ex : ∃ (g : Addr) (a n k e : Str) (Ng : List Str) (i j : Nat) (pg : Arguments) (bg : List Stmt) (sg : Scope) (kV doc pm cdv ct oc : Value) (an od : Option Addr) (osl : Array (Option Value)) (jc : Nat) (q1 q2 q3 p1 p2 p3 np p4 p5 p6 p7 p8 p9 p10 : Pos),
    mg x = some (.ref g) ∧ PySem.W.keepIn K (.ref g) = true ∧ K.lookup g = some ⟨oc, od, .func (PySem.W.fnOf x x pg bg sg .none kV doc pm an cdv ct), osl⟩ ∧ PySem.W.codeIn K cdv x = true ∧ L2.Binds K (PySem.W.fnOf x x pg bg sg .none kV doc pm an cdv ct) [a] [] ∧ FnScope Ng [a] sg ∧ Ng[0]? = some a ∧ Vis sg a ∧
    bg = [.Assign [.Name k q1] (.Constant .none jc q2) q3, .Try [.Expr (.Call (.Name a p1) [] [] p2) p3] [.ExceptHandler (some (.Name e np)) (some n) [.Assign [.Name k p4] (.Name n p5) p6] p7] [] [] p8, .Return (some (.Name k p9)) p10] ∧
    Ng.Nodup ∧ Ng[i]? = some n ∧ sg.names.lookup n = some .local ∧ Ng[j]? = some k ∧ sg.names.lookup k = some .local ∧ i ≠ j ∧ j ≠ 0 ∧ sg.names.lookup e = some .globalImplicit ∧ mg e = some (.ref CE) ∧
    (e == ("__debug__" : Str)) = false ∧ (n == ("__debug__" : Str)) = false ∧ (n == ("__classdict__" : Str)) = false ∧ (k == ("__debug__" : Str)) = false ∧ (k == ("__classdict__" : Str)) = false ∧ (a == ("__debug__" : Str)) = false ∧ (a == ("__classdict__" : Str)) = false
/-- what a def that makes lambdas has: its code object and the table -/
structure LamOk (X : Cx) (T : List (Addr × Str)) : Prop where
  ex : ∃ c P, TabB X.base X.mg c P ∧ X.env.code = .ref c ∧ (P, X.env.qual ++ "<lambda>") ∈ T ∧ ∀ p ∈ T, p.1 = P → p.2 = X.env.qual ++ "<lambda>"
def keptR : Option Addr → Sl
  | none => .d .non
  | some C => .exn C
section
variable {X : Cx} {T : List (Addr × Str)} {δ : List Sl} {ω ω1 : Om} {x : Str} {CE : Addr} {params : Arguments} {body : Expr} {scope : Scope} {p lpos pos : Pos} {k : Nat} {oc : Option Addr}
def blkL (X : Cx) (k : Nat) (scope : Scope) (body : Expr) (E : XK) : TE := fun σ Hh Q => ∀ (A : Around) (outer : List Env) (s : Shared) (H : Hp) (f c' : Addr), Room k (A.deeper (lamEnv X scope s.heap.objs.size f c')) → ∃ u, PE (lamCx X A outer s H E scope f c') body u ∧ u σ Hh Q
theorem pd_kept (D : KeptDef X.K X.mg x CE) (O : LamOk X T) (hr : Room (k + 2) X.A) (L : LamS X.env.scope scope) (hx : ∀ C, oc = some C → PySem.W.exmOne X.K (.ref C) (.ref CE) = some true)
    (hb : ∀ (A : Around) (outer : List Env) (s : Shared) (H : Hp) (E : XK) (f c' : Addr), Room k (A.deeper (lamEnv X scope s.heap.objs.size f c')) → PX (lamCx X A outer s H E scope f c') T (fun cls d _ H' => E cls d H') body δ ω (fun _ ω' => oc = none ∧ ω' = ω1) (fun C ω' => oc = some C ∧ ω' = ω1))
    (hg : Gl X x := by rfl) (hdef : defaultsOf params X.env = ([], []) := by rfl) (hbind : ∀ (q : Str) (cl : List (Str × Addr)) (pm cv ctv : Value), bindArgs (PySem.W.kla_fn "<lambda>" q params body scope cl pm cv ctv) ⟨[], []⟩ = pure [] := by intros; rfl) (hdb : (x == ("__debug__" : Str)) = false := by decide) :
    PD X T (.Call (.Name x p) [.Lambda params body scope lpos] [] pos) δ ω (keptR oc) ω1 := by
  obtain ⟨g, a, n, kk, e, Ng, i, j, pg, bg, sg, kV, doc, pm, cdv, ct, ob, an, od, osl, jc, q1, q2, q3, p1, p2, p3, np, p4, p5, p6, p7, p8, p9, p10, hm, hk, lk, hcg, hbd, Sg, hNg, hva, rfl, hN, hi, hln, hj, hlk, hij, hj0, hge, hme, hd1, hd2, hd3, hd4, hd5, hd6, hd7⟩ := D.ex
  obtain ⟨c, Pt, TB, hcode, hmT, hu⟩ := O.ex
  refine ⟨_, pe_lamcall (t := blkL X k scope body) hg hm hk lk hcg hbd Sg hNg hva (kept_gives hN hi hln hj hlk hij hj0 hge hme hd1 hd2 hd3 hd4 hd5) TB hcode hmT hu hr L hdef hbind (fun A outer s H E f c' hr2 => ⟨fun pins s2 σ Hh Q I h => ?_⟩) hdb hd6 hd7, fun σ F H S Q q => ?_⟩
  · obtain ⟨u, h1, h2⟩ := h A outer s H f c' hr2
    exact h1.run pins s2 σ Hh Q I h2
  · refine ⟨S.tb, fun H1 eN T1 => ?_⟩
    intro A outer s Hx f c' hr2
    refine hb A outer s Hx _ f c' hr2 σ F H1 (S.tabs eN T1) _ (fun v F' H' r ω' e1 S1 z ⟨ho, hw⟩ => ?_) fun C F' H' ω' e1 S1 ⟨ho, hw⟩ => ?_
    · subst ho
      subst hw
      exact q .non F' H' e1 S1 (show Rp X.K F' .non .non from .non)
    · subst hw
      refine ⟨hx C ho, rfl, C, rfl, fun a ha => ?_⟩
      subst ho
      exact q (.ref a) _ _ (e1.trans (S1.cold_ex ha)) (S1.cold ha exO_tbl) ⟨a, rfl, upd_same⟩
end
/-! ### isinstance of an exception that is kept -/
section
variable {X : Cx} {T : List (Addr × Str)} {a b : Expr} {δ : List Sl} {ω ω1 ω2 : Om} {p pos : Pos}
def rIsX (K : PySem.W.Frag) : List V → Hp → VK → Prop := fun xs H Q => ∃ (C a : Addr) (c : V) (cv : Value) (k : Bool), xs = [.ref a, c] ∧ H a = some (ExO C a) ∧ L2.ExcC K C ∧ (∀ u, RelV c u → u = cv) ∧ PySem.W.kitOne K (.ref C) cv = some k ∧ Q (.bl k) H
theorem call_isX : CallR X (.builtin "isinstance") (rIsX X.K) := by
  intro pins s σ H xs us Q I r h
  obtain ⟨C, a, c, cv, k, rfl, ha, E, hcv, e, q⟩ := h
  obtain ⟨u1, u2, rfl, r1, r2⟩ := vals2 r
  obtain rfl : u1 = Value.ref a := r1
  have ec := hcv _ r2
  subst ec
  obtain ⟨⟨oe, vs, h1, h2, h3⟩, _, _⟩ := I.hok a _ ha
  have J : PySem.W.InstAt s.heap a oe C none := by
    obtain ⟨o1, o2, o3, o4⟩ := oe
    obtain ⟨k1, k2⟩ := h2
    dsimp only at k1 k2 h3
    subst k1 k2 h3
    exact ⟨h1, rfl, rfl, trivial⟩
  exact PySem.W.kia_one (PySem.W.handS_kitx_exc E.hg E.hk E.hs E.hd E.ha E.hn E.ht E.hm) I.kIn J e (fun z => nomatch z) fun tk => ⟨.bl k, H, I.kept (t' := tk) fun _ _ z => z, rfl, q⟩
theorem pd_isX {C D : Addr} {k : Bool} (hm : X.mg "isinstance" = none) (E : L2.ExcC X.K C) (ha : PD X T a δ ω (.exn C) ω1) (hb : PD X T b δ ω1 (.v (.ref D)) ω2) (hk : PySem.W.kitOne X.K (.ref C) (.ref D) = some k) (hg : Gl X "isinstance" := by rfl)
    (hs : starEach (a :: [b]) X.env = (false, eval a X.env) :: starEach [b] X.env := by rfl) (hs2 : starEach (b :: []) X.env = (false, eval b X.env) :: starEach [] X.env := by rfl) (hpl : (backTo pos (starEach [b] X.env)).any (·.1) = false := by rfl) : PD X T (.Call (.Name "isinstance" p) [a, b] [] pos) δ ω (.d (.bl k)) ω2 :=
  pd_cb call_isX hm (by decide +kernel) (pl2 ha hb hs hs2) (fun σ F H vs S r Q q => by
    obtain ⟨v, w, rfl, ⟨x, hv, hx⟩, hw⟩ := sls2 r
    have hw : w = .ref D := hw
    subst hw
    subst hv
    exact ⟨C, x, _, _, k, rfl, S.ex _ _ hx, E, fun u hu => hu, hk, q _ F H (Ex.refl F) S (Rp.bl _)⟩) hg (by decide) (by decide) hs hpl
theorem pd_isXT {C : Addr} {n : String} {k : Bool} (hm : X.mg "isinstance" = none) (E : L2.ExcC X.K C) (ha : PD X T a δ ω (.exn C) ω1) (hb : PD X T b δ ω1 (.v (.ty n)) ω2) (hk : PySem.W.kitOne X.K (.ref C) (.type n) = some k) (hg : Gl X "isinstance" := by rfl)
    (hs : starEach (a :: [b]) X.env = (false, eval a X.env) :: starEach [b] X.env := by rfl) (hs2 : starEach (b :: []) X.env = (false, eval b X.env) :: starEach [] X.env := by rfl) (hpl : (backTo pos (starEach [b] X.env)).any (·.1) = false := by rfl) : PD X T (.Call (.Name "isinstance" p) [a, b] [] pos) δ ω (.d (.bl k)) ω2 :=
  pd_cb call_isX hm (by decide +kernel) (pl2 ha hb hs hs2) (fun σ F H vs S r Q q => by
    obtain ⟨v, w, rfl, ⟨x, hv, hx⟩, hw⟩ := sls2 r
    have hw : w = .ty n := hw
    subst hw
    subst hv
    exact ⟨C, x, _, _, k, rfl, S.ex _ _ hx, E, fun u hu => hu, hk, q _ F H (Ex.refl F) S (Rp.bl _)⟩) hg (by decide) (by decide) hs hpl
end

/-! ### names at once from a list; lists that change -/
section
variable {X : Cx} {T : List (Addr × Str)} {XW : WX} {e o : Expr} {es : List Expr} {δ : List Sl} {ω ω1 : Om} {pos p : Pos} {R : Wt} {x : Str} {sts : List Stmt}
theorem sul (i j : Nat) {y2 : Str} {p1 p2 p3 : Pos} {kk} {d1 d2 : Dt} (h : PD X T e δ ω (.d (.lst [d1, d2])) ω1) (q : R.nx ((δ.set i (.d d1)).set j (.d d2)) ω1) (hcm : X.calm = true := by rfl) (hN : X.N.Nodup := by first | assumption | exact FnScope.nd (by assumption)) (hi : X.N[i]? = some x := by rfl) (hx : Loc X.env.scope x := by first | exact Or.inl rfl | exact Or.inr rfl)
    (hj : X.N[j]? = some y2 := by rfl) (hy : Loc X.env.scope y2 := by first | exact Or.inl rfl | exact Or.inr rfl) (hs : swapsWithSole [.Tuple [.Name x p1, .Name y2 p2] kk p3] e pos.line X.env = pure false := by rfl)
    (hw : swappedStores [.Tuple [.Name x p1, .Name y2 p2] kk p3] e X.env = pure none := by rfl)
    (hf : X.fn x = true ∨ X.env.scope.names.lookup x = some .local := by first | exact .inl rfl | exact .inr rfl | assumption) (hf2 : X.fn y2 = true ∨ X.env.scope.names.lookup y2 = some .local := by first | exact .inl rfl | exact .inr rfl | assumption) :
    S1 X T XW (.Assign [.Tuple [.Name x p1, .Name y2 p2] kk p3] e pos) δ ω R := by
  obtain ⟨t, h1, h2⟩ := h
  intro σ F H D S s
  refine ⟨_, ps_asg h1 (L2.pg_lst hcm (pgs_cons (pg_name hN hi hx hf) (pgs_cons (pg_name hN hj hy hf2) pgs_nil))) hs hw, ?_⟩
  refine h2 σ F H S _ fun v F1 H1 e1 S1 r1 => ?_
  have r1 : Rp X.K F1 v (.lst [d1, d2]) := r1
  cases r1 with
  | lst z r =>
    cases r with
    | cons ra r =>
      cases r with
      | cons rb r =>
        cases r
        refine ⟨_, _, rfl, SqL.of (S1.ex _ _ z), rfl, _, _, rfl, _, _, rfl, rfl, ?_⟩
        exact s.nx _ F1 H1 _ ω1 e1 (S1.slots ((S1.sl.set (x := .d d1) (v := some _) ra i).set (x := .d d2) (v := some _) rb j)) q
/-- x = [..], a list that will change -/
theorem s_new (i : Nat) {p2 : Pos} {ds : List Dt} (h : PL X T es δ ω (ds.map Sl.d) ω1) (hs : ds.length ≤ sizeLine) (q : ∀ a, ω1 a = none → R.nx (δ.set i (.v (.ref a))) (ω1.set a (.lst ds))) (hN : X.N.Nodup := by first | assumption | exact FnScope.nd (by assumption)) (hi : X.N[i]? = some x := by rfl) (hx : Loc X.env.scope x := by first | exact Or.inl rfl | exact Or.inr rfl)
    (hsw : swapsWith (.List es p) (some (.Name x p2)) pos.line X.env = pure false := by rfl) (hf : X.fn x = true ∨ X.env.scope.names.lookup x = some .local := by first | exact .inl rfl | exact .inr rfl | assumption) : S1 X T XW (.Assign [.Name x p2] (.List es p) pos) δ ω R := by
  refine s_setX hN hi hx (fun σ F H S Q k _ => ?_) hsw hf
  obtain ⟨t, h1, h2⟩ := h
  refine ⟨_, pe_lst h1, ?_⟩
  refine h2 σ F H S _ fun vs F1 H1 e1 S1 r1 => ?_
  have r := RpL.of_sls r1
  refine ⟨by rw [r.length]; exact hs, fun a ha => ?_⟩
  exact k (.ref a) F1 _ (.v (.ref a)) _ e1 (S1.warm (m' := .lst ds) ha ⟨vs, upd_same, r⟩) rfl (q a (S1.notin ha))
/-- x.append(e) -/
theorem s_app {a : Addr} {ds : List Dt} {d : Dt} {apos : Pos} (ho : PD X T o δ ω (.v (.ref a)) ω) (he : PD X T e δ ω (.d d) ω1) (hm0 : ω a = some (.lst ds)) (hm : ω1 a = some (.lst ds)) (hs : ds.length < sizeLine) (q : R.nx δ (ω1.set a (.lst (ds ++ [d])))) (hbase : attributeBase o "append" X.env (eval o X.env) = eval o X.env := by rfl)
    (hfew : ((backTo p (starEach (e :: []) X.env)).all (fun x => !x.1) && (backToKw p (keywordEach [] X.env)).all (fun x => x.1.isSome) && decide ((e :: []).length + ([] : List Keyword).length + (if ([] : List Keyword).isEmpty then 0 else 1) < 30)) = true := by rfl)
    (hline : (apos.endLine == p.line) = true := by rfl) (hst : starEach (e :: []) X.env = (false, eval e X.env) :: starEach [] X.env := by rfl) (hpl : (backTo p (starEach [] X.env)).any (·.1) = false := by rfl)
    (hsw : swapsWith (.Call (.Attribute o "append" apos) [e] [] p) none pos.line X.env = pure false := by rfl) : S1 X T XW (.Expr (.Call (.Attribute o "append" apos) [e] [] p) pos) δ ω R := by
  obtain ⟨t, h1, h2⟩ := ho
  obtain ⟨u, g1, g2⟩ := pl1 he hst
  refine s_exprX (fun σ F H S Q k _ => ?_) hsw
  refine ⟨_, pe_bm PySem.F.plainAttrs_list PySem.F.slot_list_append PySem.F.type_list_append mt_append h1 g1 hbase hfew hline hst hpl, ?_⟩
  refine h2 σ F H S _ fun v F1 H1 e1 S1 r1 => ?_
  have r1 : v = .ref a := r1
  subst r1
  obtain ⟨_, vs0, hv0, _⟩ := S1.om a _ hm0
  refine ⟨.inl ⟨rfl, _, SqL.of hv0⟩, ?_⟩
  refine g2 σ F1 H1 S1 _ fun ws F2 H2 e2 S2 r2 => ?_
  obtain ⟨w, rfl, hw⟩ := sls1 r2
  have hw : Rp X.K F2 w d := hw
  obtain ⟨_, vs, hv, rv⟩ := S2.om a _ hm
  refine ⟨a, vs, w, rfl, rfl, hv, by rw [rv.length]; exact hs, ?_⟩
  exact k .non F2 _ (.d .non) _ (e1.trans e2) (S2.write (m' := .lst (ds ++ [d])) hm ⟨vs ++ [w], upd_same, rv.append (.cons hw .nil)⟩) (show Rp X.K F2 .non .non from .non) q
/-- from here on a list no longer changes -/
theorem ss_frz (i : Nat) {a : Addr} {ds : List Dt} (hi : δ[i]? = some (.v (.ref a))) (hm : ω a = some (.lst ds)) (h : SD X T XW sts (δ.set i (.d (.lst ds))) (ω.del a) R) : SD X T XW sts δ ω R := fun σ F H D S s => by
  obtain ⟨F1, e1, S1, r1⟩ := S.freeze hm
  obtain ⟨v, hv, hr⟩ := S.sl.get hi
  have ev := hr.v_of
  subst ev
  have hset : σ.set i (some (.ref a)) = σ := by
    obtain ⟨h1, h2⟩ := List.getElem?_eq_some_iff.mp hv
    rw [← h2, List.set_getElem_self]
  have S2 := S1.slots (S1.sl.set (x := .d (.lst ds)) (v := some (.ref a)) r1 i)
  rw [hset] at S2
  exact h σ F1 H D S2 (s.mono e1)
end
end Fl
/-! FlA: a def that makes lambdas; its code object and its table are known. -/
namespace Fl
open PySem PySem.Spec PyProof.Rows L2
theorem lamOk {X : Cx} {q : Str} {c P : Addr} (TB : LamX.TabB X.base X.mg c P) (hc : X.env.code = .ref c) (hq : X.env.qual = q ++ ".<locals>.") : LamOk X [(P, (q ++ ".<locals>.") ++ "<lambda>")] :=
  ⟨c, P, TB, hc, by rw [hq]; exact List.mem_singleton.mpr rfl, fun p hp _ => by rw [List.mem_singleton.mp hp, hq]⟩
structure FunC (K : PySem.W.Frag) (x qual : Str) (st : Stmt) (f : Addr) (fd : FuncData) (c : Addr) : Prop where
  ex : ∃ (oc : Value) (od : Option Addr) (kV doc pm : Value) (an : Option Addr) (ct : Value) (osl : Array (Option Value)),
    fd = PySem.W.fnOf x qual (defArgs st) (defBody st) (defScope st) .none kV doc pm an (.ref c) ct ∧ K.lookup f = some ⟨oc, od, .func fd, osl⟩ ∧ PySem.W.codeIn K (.ref c) qual = true
section
variable {P : Program} {w : World} {K : PySem.W.Frag} {T : List (Addr × Str)} {mg : Str → Option Value} {base : Heap}
theorem fn_okL {x qual : Str} {st : Stmt} {f c : Addr} {fd : FuncData} {N ps : List Str} {k : Nat} {fs : FSp} (F : FunC K x qual st f fd c) (S : FnScope N ps (defScope st))
    (hbody : ∀ (A : Around) (outer : List Env) (s : Shared) (H : Hp) (as : List Sl) (ω : Om) (Q : Sl → Om → Prop) (RX : Addr → Om → Prop), Room k (A.deeper (envOfC qual (defScope st) s.heap.objs.size f (.ref c))) → as.length = ps.length → fs as ω Q RX →
      SD (cxOf CX0 P w K mg base N qual (defScope st) f (.ref c) A outer s H E0).nox T XN (defBody st) (entry N as) ω { nx := fun _ ω' => Q (.d .non) ω', rt := Q }) : FnOk P w K mg base CX0 (k + 1) f fd ps (toSp K T ps.length fs) := by
  obtain ⟨oc, od, kV, doc, pm, an, ct, osl, rfl, lk, hcd⟩ := F.ex
  refine fn_of lk hcd S (fun vs H Q E h => h.1) fun A outer s H vs Q E hr h => ?_
  obtain ⟨hl, Fr, ω, as, R, RX, hfs, S0, kr, kx⟩ := h
  have hla : as.length = ps.length := by
    have := S0.sl.len
    rw [List.length_map] at this
    rw [← this, hl]
  obtain ⟨t, h1, h2⟩ := hbody A outer s H as ω R RX hr hla hfs _ Fr H { nx := fun _ H' => Q .non H', rt := Q } (S0.slots (entry_ok S0.sl)) ⟨fun σ F' H' δ ω' e1 S1 q => kr .non σ F' H' (.d .non) δ ω' e1 S1 (show Rp K F' .non .non from .non) q, fun v σ F' H' r δ ω' e1 S1 z q => kr v σ F' H' r δ ω' e1 S1 z q, fun _ _ _ _ _ _ _ q => q.elim, fun _ _ _ _ _ _ _ q => q.elim, fun _ _ _ _ _ _ _ _ q => q.elim⟩
  exact ⟨t, h1.nox, h2⟩
end
end Fl
/-! FlB: a, b = e1, e2; the law's promise, from the script. -/
namespace Fl
open PySem PySem.Spec PyProof.Rows L2
section
variable {X : Cx} {T : List (Addr × Str)} {XW : WX} {a b : Expr} {δ : List Sl} {ω ω1 ω2 : Om} {pos p : Pos} {R : Wt} {x : Str} {r1 r2 : Sl}
/-- a, b = e1, e2, two plain locals -/
theorem s_par (i j : Nat) {y : Str} {p1 p2 p3 p4 : Pos} {kt k2} (ha : PD X T a δ ω r1 ω1) (hb : PD X T b δ ω1 r2 ω2) (q : R.nx ((δ.set i r1).set j r2) ω2) (hw : swappedStores [.Tuple [.Name x p1, .Name y p2] kt p3] (.Tuple [a, b] k2 p4) X.env = pure (some [x, y]) := by rfl) (hij : i ≠ j := by decide) (hc : X.calm = true := by rfl)
    (hN : X.N.Nodup := by first | assumption | exact FnScope.nd (by assumption)) (hi : X.N[i]? = some x := by rfl) (hj : X.N[j]? = some y := by rfl) (hx : X.env.scope.names.lookup x = some .local := by rfl) (hy : X.env.scope.names.lookup y = some .local := by rfl)
    (hs1 : starEach (a :: [b]) X.env = (false, eval a X.env) :: starEach [b] X.env := by rfl) (hs2 : starEach (b :: []) X.env = (false, eval b X.env) :: starEach [] X.env := by rfl)
    (hs : swapsWithSole [.Tuple [.Name x p1, .Name y p2] kt p3] (.Tuple [a, b] k2 p4) pos.line X.env = pure false := by rfl) : S1 X T XW (.Assign [.Tuple [.Name x p1, .Name y p2] kt p3] (.Tuple [a, b] k2 p4) pos) δ ω R := by
  obtain ⟨t, h1, h2⟩ := pl2 ha hb hs1 hs2
  intro σ F H D S s
  refine ⟨_, ps_par hc hN hi hj hij hx hy h1 hw hs, ?_⟩
  refine h2 σ F H S _ fun vs F1 H1 e1 S1 rr => ?_
  obtain ⟨v, w, rfl, hv, hw2⟩ := sls2 rr
  exact ⟨v, w, rfl, s.nx _ F1 H1 _ ω2 e1 (S1.slots ((S1.sl.set hv i).set hw2 j)) q⟩
end
/-- what a law promises of a script: it is told True -/
def lawF (n : Nat) : FSp := fun as ω P _ => ∃ ns : List Int, as = [.ro (ns.map .int)] ∧ ns.length ≤ n ∧ P (.d (.bl true)) ω
theorem law_sp {K : PySem.W.Frag} {T : List (Addr × Str)} {n : Nat} {H : Hp} {a : Addr} {ns : List Int} {cs : List (Addr × Addr)} (hT : ∀ p ∈ T, ∃ c ∈ cs, c.2 = p.1) (hl : ns.length ≤ n) (ht : ∀ p ∈ cs, H p.2 = some (.tbl #[])) (hS : SqL K H a (ns.map V.int)) :
    toSp K T 1 (lawF n) [.ref a] H (fun v _ => v = .bl true) fun _ _ _ => False := by
  refine ⟨rfl, fun b => if b = a then (match H a with | some (.lst xs) => some (.lst xs) | some (.frz o u) => some (.frz o u) | _ => none) else none, fun _ => none, [.ro (ns.map .int)], fun r _ => r = .d (.bl true), fun _ _ => False, ⟨ns, rfl, hl, rfl⟩, ?_, fun v σ F' H' r δ ω' e S z q => ?_, fun C σ F' H' δ ω' e S q => q⟩
  · refine ⟨fun b o e => ?_, fun b ps e => ?_, fun p hp => ?_, ?_, fun _ _ e => nomatch e⟩
    · by_cases hb : b = a
      · subst hb
        rw [if_pos rfl] at e
        split at e
        · rename_i h
          rw [h]
          exact e
        · rename_i h
          rw [h]
          exact e
        · cases e
      · rw [if_neg hb] at e
        cases e
    · by_cases hb : b = a
      · rw [if_pos hb] at e
        split at e <;> cases e
      · rw [if_neg hb] at e
        cases e
    · obtain ⟨c, hc, ec⟩ := hT p hp
      exact LamX.TabS.nil (by rw [← ec]; exact ht c hc)
    · refine .cons ⟨a, ns.map V.int, rfl, ?_, RpL.of_ints ns⟩ .nil
      rcases hS with (h | ⟨o, h⟩) | h
      · exact .inl (.inl (by show (if a = a then _ else _) = _; rw [if_pos rfl, h]))
      · exact .inl (.inr ⟨o, by show (if a = a then _ else _) = _; rw [if_pos rfl, h]⟩)
      · exact .inr h
  · subst q
    have z : Rp K F' v (.bl true) := z
    cases z
    rfl
end Fl
/-! FlC: what the top has left, as facts of the written part. -/
namespace Fl
open PySem PySem.Spec PyProof.Rows L2
/-- a def of the module stands at f -/
structure DF (K : PySem.W.Frag) (x : Str) (st : Stmt) (f : Addr) : Prop where
  n : PySem.W.nsIn K mainGlobals x = some (some (.ref f))
  ex : ∃ (oc : Value) (od : Option Addr) (kV doc pm : Value) (an : Option Addr) (cd ct : Value) (sl : Array (Option Value)), K.lookup f = some ⟨oc, od, .func (PySem.W.fnOf x x (defArgs st) (defBody st) (defScope st) .none kV doc pm an cd ct), sl⟩ ∧ PySem.W.codeIn K cd x = true
  k : PySem.W.keepIn K (.ref f) = true
/-- .. and its code object at c -/
structure DFc (K : PySem.W.Frag) (x : Str) (st : Stmt) (f c : Addr) : Prop where
  n : PySem.W.nsIn K mainGlobals x = some (some (.ref f))
  ex : ∃ (oc : Value) (od : Option Addr) (kV doc pm : Value) (an : Option Addr) (ct : Value) (sl : Array (Option Value)), K.lookup f = some ⟨oc, od, .func (PySem.W.fnOf x x (defArgs st) (defBody st) (defScope st) .none kV doc pm an (.ref c) ct), sl⟩ ∧ PySem.W.codeIn K (.ref c) x = true
  k : PySem.W.keepIn K (.ref f) = true
section
variable {P : Program} {w : World} {K : PySem.W.Frag} {mg : Str → Option Value} {base h : Heap} {T : List (Addr × Str)} {CX : CXT} {k n : Nat} {fs : FSp} {x : Str} {st : Stmt} {f c : Addr} {ps : List Str}
theorem DF.fn (D : DF K x st f) : ∃ fd, Fun K x x st f fd := by
  obtain ⟨oc, od, kV, doc, pm, an, cd, ct, sl, l, c⟩ := D.ex
  exact ⟨_, fun_mk l c D.k⟩
theorem DF.cal (D : DF K x st f) (X : K.In h) (G : h.Ns mainGlobals mg) (ok : ∀ fd, Fun K x x st f fd → FnOk P w K mg base CX k f fd ps (toSp K T n fs))
    (hb : ∀ (kV doc pm : Value) (an : Option Addr) (cdv ct : Value) (us : List Value), us.length = ps.length → bindArgs (PySem.W.fnOf x x (defArgs st) (defBody st) (defScope st) .none kV doc pm an cdv ct) ⟨us, []⟩ = pure (ps.zip us)) : Cal P w K mg base CX T k x n fs := by
  obtain ⟨fd, F⟩ := D.fn
  exact ⟨f, fd, ps, ok fd F, PySem.W.mg_of X G D.n, D.k, F.binds hb⟩
theorem DFc.cal (D : DFc K x st f c) (X : K.In h) (G : h.Ns mainGlobals mg) (ok : ∀ fd, FunC K x x st f fd c → FnOk P w K mg base CX k f fd ps (toSp K T n fs))
    (hb : ∀ (kV doc pm : Value) (an : Option Addr) (cdv ct : Value) (us : List Value), us.length = ps.length → bindArgs (PySem.W.fnOf x x (defArgs st) (defBody st) (defScope st) .none kV doc pm an cdv ct) ⟨us, []⟩ = pure (ps.zip us)) : Cal P w K mg base CX T k x n fs := by
  obtain ⟨oc, od, kV, doc, pm, an, ct, sl, l, hc⟩ := D.ex
  exact ⟨f, _, ps, ok _ ⟨⟨oc, od, kV, doc, pm, an, ct, sl, rfl, l, hc⟩⟩, PySem.W.mg_of X G D.n, D.k, .all (hb kV doc pm an (.ref c) ct)⟩
end
/-- an own error class at C under the one at CE -/
structure EF (K : PySem.W.Frag) (x : Str) (C CE : Addr) : Prop where
  n : PySem.W.nsIn K mainGlobals x = some (some (.ref C))
  hg : PySem.W.findIn K (.ref C) "__getattribute__" = some (some (.builtin "BaseException.__getattribute__"))
  hk : PySem.W.findIn K (.ref C) "__getattr__" = some none
  hs : PySem.W.subIn K (.ref C) (.type "BaseException") = some true
  hd : PySem.W.hasDictIn K C = true
  ha : PySem.W.findIn K (.ref C) "__class__" = some (some (.builtin "object.__class__"))
  hn : PySem.W.specialIn K (.builtin "object.__class__") "__get__" = some (some (.builtin "getset_descriptor.__get__"))
  ht : PySem.W.takesIn K (.builtin "object.__class__") = some true
  hm : PySem.W.mroIn K C (.type "object") = some true
  em : PySem.W.exmOne K (.ref C) (.ref CE) = some true
  kv : PySem.W.kitOne K (.ref C) (.type "ValueError") = some true
/-- .. and it may be raised -/
structure RF (K : PySem.W.Frag) (C : Addr) : Prop where
  ex : PySem.W.excIn K C [.type "ValueError", .type "Exception", .type "BaseException", .type "object"] "ValueError.__new__" = true
  kp : PySem.W.keepIn K (.ref C) = true
  ty : PySem.W.typeIn K (.ref C) = some (.type "type")
theorem EF.x {K : PySem.W.Frag} {x : Str} {C CE : Addr} (E : EF K x C CE) : L2.ExcC K C := ⟨E.hg, E.hk, E.hs, E.hd, E.ha, E.hn, E.ht, E.hm⟩
theorem EF.raise {K : PySem.W.Frag} {x : Str} {C CE : Addr} {h : Heap} {mg : Str → Option Value} (E : EF K x C CE) (R : RF K C) (X : K.In h) (G : h.Ns mainGlobals mg) : ExcK K mg x C := ⟨PySem.W.mg_of X G E.n, R.ex, R.kp, E.hs, R.ty⟩
def cls5 (c0 c1 c2 c3 c4 : Addr) : Nat → Addr
  | 0 => c0
  | 1 => c1
  | 2 => c2
  | 3 => c3
  | _ => c4
/-- isinstance of one of five classes: itself alone -/
structure KF (K : PySem.W.Frag) (C c0 c1 c2 c3 c4 : Addr) (i : Nat) : Prop where
  k0 : PySem.W.kitOne K (.ref C) (.ref c0) = some (decide (i = 0))
  k1 : PySem.W.kitOne K (.ref C) (.ref c1) = some (decide (i = 1))
  k2 : PySem.W.kitOne K (.ref C) (.ref c2) = some (decide (i = 2))
  k3 : PySem.W.kitOne K (.ref C) (.ref c3) = some (decide (i = 3))
  k4 : PySem.W.kitOne K (.ref C) (.ref c4) = some (decide (i = 4))
theorem KF.all {K : PySem.W.Frag} {C c0 c1 c2 c3 c4 : Addr} {i : Nat} (F : KF K C c0 c1 c2 c3 c4 i) : ∀ j, j < 5 → PySem.W.kitOne K (.ref C) (.ref (cls5 c0 c1 c2 c3 c4 j)) = some (decide (i = j))
  | 0, _ => F.k0
  | 1, _ => F.k1
  | 2, _ => F.k2
  | 3, _ => F.k3
  | 4, _ => F.k4
/-- the built-in names that the text leaves alone -/
structure BF (K : PySem.W.Frag) : Prop where
  type : PySem.W.nsIn K mainGlobals "type" = some none
  int : PySem.W.nsIn K mainGlobals "int" = some none
  bool : PySem.W.nsIn K mainGlobals "bool" = some none
  str : PySem.W.nsIn K mainGlobals "str" = some none
  list : PySem.W.nsIn K mainGlobals "list" = some none
  tuple : PySem.W.nsIn K mainGlobals "tuple" = some none
  len : PySem.W.nsIn K mainGlobals "len" = some none
  isinstance : PySem.W.nsIn K mainGlobals "isinstance" = some none
  sorted : PySem.W.nsIn K mainGlobals "sorted" = some none
  max : PySem.W.nsIn K mainGlobals "max" = some none
  min : PySem.W.nsIn K mainGlobals "min" = some none
  enumerate : PySem.W.nsIn K mainGlobals "enumerate" = some none
  range : PySem.W.nsIn K mainGlobals "range" = some none
  zip : PySem.W.nsIn K mainGlobals "zip" = some none
theorem BF.bt {K : PySem.W.Frag} {h : Heap} {mg : Str → Option Value} (B : BF K) (X : K.In h) (G : h.Ns mainGlobals mg) : Bt mg :=
  ⟨PySem.W.mg_none_of X G B.type, PySem.W.mg_none_of X G B.int, PySem.W.mg_none_of X G B.bool, PySem.W.mg_none_of X G B.str, PySem.W.mg_none_of X G B.list, PySem.W.mg_none_of X G B.tuple, PySem.W.mg_none_of X G B.len, PySem.W.mg_none_of X G B.isinstance, PySem.W.mg_none_of X G B.sorted, PySem.W.mg_none_of X G B.max, PySem.W.mg_none_of X G B.min, PySem.W.mg_none_of X G B.enumerate, PySem.W.mg_none_of X G B.range, PySem.W.mg_none_of X G B.zip⟩
end Fl
namespace K01
open PySem PySem.Spec PyProof.Rows L2 Fl
def top (i : Nat) : Stmt := PySem.Challenge.pw_stretchkeeper_k01_stretches.main.body.getD i (.Pass ⟨0, 0, 0, 0⟩)
abbrev sis_number : Stmt := top 8
abbrev scheck_number : Stmt := top 9
abbrev sis_end : Stmt := top 10
abbrev sis_stretch : Stmt := top 11
abbrev scheck_stretch : Stmt := top 12
abbrev shas_number : Stmt := top 13
abbrev ssize_of : Stmt := top 14
abbrev sshared : Stmt := top 15
theorem scis_number : FnScope ["thing"] ["thing"] (defScope sis_number) := ⟨rfl, rfl, rfl, by decide +kernel, rfl, by decide +kernel, by decide +kernel⟩
theorem sccheck_number : FnScope ["thing"] ["thing"] (defScope scheck_number) := ⟨rfl, rfl, rfl, by decide +kernel, rfl, by decide +kernel, by decide +kernel⟩
theorem scis_end : FnScope ["thing"] ["thing"] (defScope sis_end) := ⟨rfl, rfl, rfl, by decide +kernel, rfl, by decide +kernel, by decide +kernel⟩
theorem scis_stretch : FnScope ["thing", "first", "last"] ["thing"] (defScope sis_stretch) := ⟨rfl, rfl, rfl, by decide +kernel, rfl, by decide +kernel, by decide +kernel⟩
theorem sccheck_stretch : FnScope ["thing"] ["thing"] (defScope scheck_stretch) := ⟨rfl, rfl, rfl, by decide +kernel, rfl, by decide +kernel, by decide +kernel⟩
theorem schas_number : FnScope ["stretch", "number", "first", "last"] ["stretch", "number"] (defScope shas_number) := ⟨rfl, rfl, rfl, by decide +kernel, rfl, by decide +kernel, by decide +kernel⟩
theorem scsize_of : FnScope ["stretch", "first", "last"] ["stretch"] (defScope ssize_of) := ⟨rfl, rfl, rfl, by decide +kernel, rfl, by decide +kernel, by decide +kernel⟩
theorem scshared : FnScope ["one", "other", "firsts", "stretch", "lasts", "both"] ["one", "other"] (defScope sshared) := ⟨rfl, rfl, rfl, by decide +kernel, rfl, by decide +kernel, by decide +kernel⟩

/-! ### what the defs are -/
def isNum : Dt → Bool
  | .int _ => true
  | _ => false
def isEnd : Dt → Bool
  | .non => true
  | .int _ => true
  | _ => false
def leE : Dt → Dt → Bool
  | .int a, .int b => decide (a ≤ b)
  | _, _ => true
def isStr : Dt → Bool
  | .tup [a, b] => isEnd a && isEnd b && leE a b
  | _ => false
/-- one argument, a truth of it; refused where it does not hold -/
def g1 (f : Dt → Bool) : List Dt → Option Dt
  | [d] => some (.bl (f d))
  | _ => none
def gChk (f : Dt → Bool) (C : Addr) : List Dt → Option Res
  | [d] => some (if f d then .ok .non else .er C)
  | _ => none
/-- a number not below the first, not above the last -/
def ltE : Dt → Dt → Bool
  | .int a, .int b => decide (a < b)
  | _, _ => false
def lies (a b n : Dt) : Bool := !ltE n a && leE n b
def gHas (CS CN : Addr) : List Dt → Option Res
  | [.tup [a, b], n] => some (if isStr (.tup [a, b]) then (if isNum n then .ok (.bl (lies a b n)) else .er CN) else .er CS)
  | [_, _] => some (.er CS)
  | _ => none
def sizeE : Dt → Dt → Dt
  | .int a, .int b => .int (b - a + 1)
  | _, _ => .non
def gSize (CS : Addr) : List Dt → Option Res
  | [.tup [a, b]] => some (if isStr (.tup [a, b]) then .ok (sizeE a b) else .er CS)
  | [_] => some (.er CS)
  | _ => none
theorem isEnd_cases {d : Dt} (h : isEnd d = true) : d = .non ∨ ∃ i, d = .int i := by
  cases d <;> first | exact .inl rfl | exact .inr ⟨_, rfl⟩ | cases h
def fstD : Dt → Dt
  | .tup (a :: _) => a
  | _ => .non
def sndD : Dt → Dt
  | .tup (_ :: b :: _) => b
  | _ => .non
/-- the ints among ends -/
def ends : List Dt → List Int
  | [] => []
  | .int i :: r => i :: ends r
  | _ :: r => ends r
def shrD (s t : Dt) : Dt :=
  let r := Dt.tup [maxN (ends [fstD s, fstD t]), minN (ends [sndD s, sndD t])]
  if isStr r then r else .non
def gShr (CS : Addr) : List Dt → Option Res
  | [s, t] => some (if isStr s then (if isStr t then .ok (shrD s t) else .er CS) else .er CS)
  | _ => none
theorem mem2 {x y d : Dt} {i : Nat} (h : [x, y][i]? = some d) : d = x ∨ d = y := by
  match i, h with
  | 0, h => exact .inl (Option.some.inj h).symm
  | 1, h => exact .inr (Option.some.inj h).symm
  | i + 2, h => simp at h
theorem ends_is : ∀ {l : List Dt} (f : Dt → Dt), (∀ d ∈ l, isEnd (f d) = true) → ((l.filter fun d => !(f d).isN).map f) = (ends (l.map f)).map Dt.int
  | [], _, _ => rfl
  | d :: l, f, h => by
    have ih := ends_is (l := l) f fun d hd => h d (List.mem_cons_of_mem _ hd)
    have hd := h d List.mem_cons_self
    rw [List.filter_cons, List.map_cons]
    rcases isEnd_cases hd with e | ⟨i, e⟩
    · rw [e]
      exact ih
    · rw [e]
      show (f d :: _) = Dt.int i :: _
      rw [e, ih]
theorem isNum_ty (d : Dt) : decide (d.ty = "int") = isNum d := by
  cases d <;> rfl
theorem isStr_tup {d : Dt} (h : isStr d = true) : ∃ a b, d = .tup [a, b] ∧ isEnd a = true ∧ isEnd b = true ∧ leE a b = true := by
  unfold isStr at h
  split at h
  · rename_i a b
    simp only [Bool.and_eq_true] at h
    exact ⟨a, b, rfl, h.1.1, h.1.2, h.2⟩
  · cases h
theorem isNum_cases {d : Dt} (h : isNum d = true) : ∃ i, d = .int i := by
  cases d <;> first | exact ⟨_, rfl⟩ | cases h
theorem gHas_bad {CS CN : Addr} {s n : Dt} (h : isStr s = false) : gHas CS CN [s, n] = some (.er CS) := by
  unfold gHas
  split
  · rename_i a b n e
    cases e
    rw [h]
    rfl
  · rfl
  · rename_i h1
    exact absurd rfl (h1 _ _)
theorem gSize_bad {CS : Addr} {s : Dt} (h : isStr s = false) : gSize CS [s] = some (.er CS) := by
  unfold gSize
  split
  · rename_i a b e
    cases e
    rw [h]
    rfl
  · rfl
  · rename_i h1
    exact absurd rfl (h1 _)
section
variable {P : Program} {w : World} {K : PySem.W.Frag} {mg : Str → Option Value} {base : Heap} {T : List (Addr × Str)}
theorem ok_is_number {f : Addr} {fd : FuncData} (B : Bt mg) (F : Fun K "is_number" "is_number" sis_number f fd) : FnOk P w K mg base CX0 1 f fd ["thing"] (toSp K T 1 (pureF (g1 isNum))) := by
  refine fn_ok F scis_number fun cdv A outer s H as ω Q RX hr hl h => ?_
  obtain ⟨xs, y, rfl, hg, q⟩ := h
  match xs, hg with
  | [d], hg =>
  cases hg
  rw [← isNum_ty] at q
  exact ss_one (s_ret (cv (m_isTy (pd_type B.type (vr 0)) (pd_ty B.int tyb_int))) (by exact q))
theorem ok_check_number {f CN : Addr} {fd : FuncData} (E : ExcK K mg "BadNumber" CN) (C1 : Cal P w K mg base CX0 T 1 "is_number" 1 (pureF (g1 isNum))) (F : Fun K "check_number" "check_number" scheck_number f fd) :
    FnOk P w K mg base (L2.CX P w) 2 f fd ["thing"] (toSp K T 1 (rF (gChk isNum CN))) := by
  refine fn_okX F sccheck_number fun cdv A outer s H EE as ω Q RX hr hl h => ?_
  obtain ⟨xs, r, rfl, hg, q⟩ := h
  match xs, hg with
  | [d], hg =>
  cases hg
  refine ss_one (s_if (pb_not (pb_val (cd C1 hr tk0 (dl (vr 0) dl_nil) rfl))) (fun h => ?_) (fun h => ?_))
  · have h : isNum d = false := by simpa using h
    rw [h] at q
    exact ss_one (s_raise rfl (takes_of rfl rfl rfl rfl) E q)
  · have h : isNum d = true := by simpa using h
    rw [h] at q
    exact ss_nil q
theorem ok_is_end {f : Addr} {fd : FuncData} (C1 : Cal P w K mg base CX0 T 1 "is_number" 1 (pureF (g1 isNum))) (F : Fun K "_is_end" "_is_end" sis_end f fd) : FnOk P w K mg base CX0 2 f fd ["thing"] (toSp K T 1 (pureF (g1 isEnd))) := by
  refine fn_ok F scis_end fun cdv A outer s H as ω Q RX hr hl h => ?_
  obtain ⟨xs, y, rfl, hg, q⟩ := h
  match xs, hg with
  | [d], hg =>
  cases hg
  have e : isEnd d = (d.isN || isNum d) := by cases d <;> rfl
  rw [e] at q
  exact ss_one (s_ret (pd_or (cv (m_isN (vr 0) (by nofun))) fun h => (pd_one (cd C1 hr tk0 (dl (vr 0) dl_nil) rfl))) (by exact q))
theorem ok_is_stretch {f : Addr} {fd : FuncData} (B : Bt mg) (C2 : Cal P w K mg base CX0 T 2 "_is_end" 1 (pureF (g1 isEnd))) (F : Fun K "is_stretch" "is_stretch" sis_stretch f fd) : FnOk P w K mg base CX0 3 f fd ["thing"] (toSp K T 1 (pureF (g1 isStr))) := by
  refine fn_ok F scis_stretch fun cdv A outer s H as ω Q RX hr hl h => ?_
  obtain ⟨xs, y, rfl, hg, q⟩ := h
  have nd := scis_stretch.nd
  match xs, hg with
  | [d], hg =>
  cases hg
  by_cases ht : ∃ l, d = .tup l
  · obtain ⟨l, rfl⟩ := ht
    refine ss_cons (s_if (pb_w (wo (ct (m_notTy (pd_type B.type (vr 0)) (pd_ty B.tuple tyb_tuple))) fun _ => wo1 (ct (m_ne hr.units (pd_lenT B.len (vr 0)) pd_int eqs_int eqs_int)))) (fun h => ?_) (fun h => ?_))
    · have hl : l.length ≠ 2 := by
        intro z
        rw [z] at h
        simp [Dt.ty, Dt.eqv, Dt.py, PyData.eqv] at h
      have e : isStr (.tup l) = false := by
        match l, hl with
        | [], _ => rfl
        | [_], _ => rfl
        | [_, _], hl => exact absurd rfl hl
        | _ :: _ :: _ :: _, _ => rfl
      rw [e] at q
      exact ss_one (s_ret pd_bl q)
    · have hl : l.length = 2 := by
        have h3 : (l.length : Int) = 2 := by simpa [Dt.eqv, Dt.py, PyData.eqv, Dt.ty] using h
        omega
      match l, hl, q with
      | [a, b], _, q =>
      refine ss_nil ?_
      refine ss_cons (su 1 2 (vr 0) ?_)
      refine ss_cons (s_if (pb_w (wo (pb_not (pb_val (cd C2 hr tk0 (dl (vr 1) dl_nil) rfl))) fun _ => wo1 (pb_not (pb_val (cd C2 hr tk0 (dl (vr 2) dl_nil) rfl))))) (fun h => ?_) (fun h => ?_))
      · have e : isStr (.tup [a, b]) = false := by
          show (isEnd a && isEnd b && leE a b) = false
          revert h
          cases isEnd a <;> cases isEnd b <;> simp
        rw [e] at q
        exact ss_one (s_ret pd_bl q)
      · have h2 : isEnd a = true ∧ isEnd b = true := by
          revert h
          cases isEnd a <;> cases isEnd b <;> simp
        have e : isStr (.tup [a, b]) = leE a b := by
          show (isEnd a && isEnd b && leE a b) = leE a b
          rw [h2.1, h2.2]
          rfl
        rw [e] at q
        refine ss_nil ?_
        rcases isEnd_cases h2.1 with rfl | ⟨i, rfl⟩
        · exact ss_one (s_ret (pd_or (m := true) (cv (m_isN (vr 1) (by nofun))) fun h => (by cases h)) (by exact q))
        · rcases isEnd_cases h2.2 with rfl | ⟨j, rfl⟩
          · exact ss_one (s_ret (pd_or (cv (m_isN (vr 1) (by nofun))) fun _ => pd_or (m := true) (cv (m_isN (vr 2) (by nofun))) fun h => (by cases h)) (by exact q))
          · exact ss_one (s_ret (pd_or (cv (m_isN (vr 1) (by nofun))) fun _ => pd_or (cv (m_isN (vr 2) (by nofun))) fun _ => (pd_one (cv (m_le (vr 1) (vr 2))))) (by exact q))
  · have e : isStr d = false := by
      cases d <;> first | rfl | exact absurd ⟨_, rfl⟩ ht
    have e2 : (!decide (d.ty = "tuple")) = true := by
      cases d <;> first | rfl | exact absurd ⟨_, rfl⟩ ht
    rw [e] at q
    refine ss_cons (s_if (pb_w (wo (m := true) (ct (m_notTy (pd_type B.type (vr 0)) (pd_ty B.tuple tyb_tuple))) fun h => absurd (h.symm.trans e2) Bool.false_ne_true)) (fun h => ?_) (fun h => ?_))
    · exact ss_one (s_ret pd_bl q)
    · rw [e2] at h
      cases h
theorem ok_check_stretch {f CS : Addr} {fd : FuncData} (E : ExcK K mg "BadStretch" CS) (C3 : Cal P w K mg base CX0 T 3 "is_stretch" 1 (pureF (g1 isStr))) (F : Fun K "check_stretch" "check_stretch" scheck_stretch f fd) :
    FnOk P w K mg base (L2.CX P w) 4 f fd ["thing"] (toSp K T 1 (rF (gChk isStr CS))) := by
  refine fn_okX F sccheck_stretch fun cdv A outer s H EE as ω Q RX hr hl h => ?_
  obtain ⟨xs, r, rfl, hg, q⟩ := h
  match xs, hg with
  | [d], hg =>
  cases hg
  refine ss_one (s_if (pb_not (pb_val (cd C3 hr tk0 (dl (vr 0) dl_nil) rfl))) (fun h => ?_) (fun h => ?_))
  · have h : isStr d = false := by simpa using h
    rw [h] at q
    exact ss_one (s_raise rfl (takes_of rfl rfl rfl rfl) E q)
  · have h : isStr d = true := by simpa using h
    rw [h] at q
    exact ss_nil q
theorem ok_has_number {f CS CN : Addr} {fd : FuncData} (C2 : Cal P w K mg base (L2.CX P w) T 2 "check_number" 1 (rF (gChk isNum CN))) (C4 : Cal P w K mg base (L2.CX P w) T 4 "check_stretch" 1 (rF (gChk isStr CS))) (F : Fun K "has_number" "has_number" shas_number f fd) :
    FnOk P w K mg base (L2.CX P w) 5 f fd ["stretch", "number"] (toSp K T 2 (rF (gHas CS CN))) := by
  refine fn_okX F schas_number fun cdv A outer s H EE as ω Q RX hr hl h => ?_
  obtain ⟨xs, r, rfl, hg, q⟩ := h
  have nd := schas_number.nd
  match xs, hg with
  | [d, n], hg =>
  have tk := tkX (X := cxOf (L2.CX P w) P w K mg base ["stretch", "number", "first", "last"] "has_number" (defScope shas_number) f cdv A outer s H EE) (takes_of rfl rfl rfl rfl)
  cases hs : isStr d with
  | false =>
    rw [gHas_bad hs] at hg
    cases hg
    exact ss_cons (s_exprX (cex (rr := .er CS) C4 hr tk (dl (vr 0) dl_nil) (by show some (if isStr d = true then Res.ok .non else .er CS) = _; rw [hs]; rfl) q))
  | true =>
    obtain ⟨a, b, rfl, ha, hb, hab⟩ := isStr_tup hs
    refine ss_cons (s_exprX (cex (rr := .ok .non) C4 hr tk (dl (vr 0) dl_nil) (by show some (if isStr (.tup [a, b]) = true then Res.ok .non else .er CS) = _; rw [hs]; rfl) ?_))
    have hg : some (if isStr (.tup [a, b]) = true then (if isNum n = true then Res.ok (.bl (lies a b n)) else .er CN) else .er CS) = some r := hg
    rw [hs, if_pos rfl] at hg
    cases hn : isNum n with
    | false =>
      rw [hn] at hg
      cases hg
      exact ss_cons (s_exprX (cex (rr := .er CN) C2 (hr.mono (by decide)) tk (dl (vr 1) dl_nil) (by show some (if isNum n = true then Res.ok .non else .er CN) = _; rw [hn]; rfl) q))
    | true =>
      rw [hn, if_pos rfl] at hg
      cases hg
      obtain ⟨k, rfl⟩ := isNum_cases hn
      refine ss_cons (s_exprX (cex (rr := .ok .non) C2 (hr.mono (by decide)) tk (dl (vr 1) dl_nil) rfl ?_))
      refine ss_cons (su 2 3 (vr 0) ?_)
      have last : ∀ (q : Q (.d (.bl (leE (.int k) b))) ω), SD (cxOf (L2.CX P w) P w K mg base ["stretch", "number", "first", "last"] "has_number" (defScope shas_number) f cdv A outer s H EE) T (fun cls d _ H' => EE cls d H') ((defBody shas_number).drop 4) [.d (.tup [a, b]), .d (.int k), .d a, .d b] ω { nx := fun _ ω' => Q (.d .non) ω', rt := Q, xc := RX } := fun q => by
        rcases isEnd_cases hb with rfl | ⟨j, rfl⟩
        · exact ss_one (s_ret (pd_or (m := true) (cv (m_isN (vr 3) (by nofun))) fun h => (by cases h)) (by exact q))
        · exact ss_one (s_ret (pd_or (cv (m_isN (vr 3) (by nofun))) fun h => (pd_one (cv (m_le (vr 1) (vr 3))))) (by exact q))
      rcases isEnd_cases ha with rfl | ⟨i, rfl⟩
      · refine ss_cons (s_if (pb_w (wa (m := false) (ct (m_notN (vr 2) (by nofun))) fun h => (by cases h))) (fun h => (by cases h)) (fun h => ss_nil ?_))
        exact last q
      · refine ss_cons (s_if (pb_w (wa (ct (m_notN (vr 2) (by nofun))) fun h => (wa1 (ct (m_lt (vr 1) (vr 2)))))) (fun h => ?_) (fun h => ss_nil ?_))
        · have e : lies (.int i) b (.int k) = false := by
            have h : decide (k < i) = true := h
            show (!decide (k < i) && _) = false
            rw [h]
            rfl
          rw [e] at q
          exact ss_one (s_ret pd_bl q)
        · have e : lies (.int i) b (.int k) = leE (.int k) b := by
            have h : decide (k < i) = false := h
            show (!decide (k < i) && _) = _
            rw [h]
            rfl
          rw [e] at q
          exact last q
theorem ok_size_of {f CS : Addr} {fd : FuncData} (C4 : Cal P w K mg base (L2.CX P w) T 4 "check_stretch" 1 (rF (gChk isStr CS))) (F : Fun K "size_of" "size_of" ssize_of f fd) :
    FnOk P w K mg base (L2.CX P w) 5 f fd ["stretch"] (toSp K T 1 (rF (gSize CS))) := by
  refine fn_okX F scsize_of fun cdv A outer s H EE as ω Q RX hr hl h => ?_
  obtain ⟨xs, r, rfl, hg, q⟩ := h
  have nd := scsize_of.nd
  match xs, hg with
  | [d], hg =>
  have tk := tkX (X := cxOf (L2.CX P w) P w K mg base ["stretch", "first", "last"] "size_of" (defScope ssize_of) f cdv A outer s H EE) (takes_of rfl rfl rfl rfl)
  cases hs : isStr d with
  | false =>
    rw [gSize_bad hs] at hg
    cases hg
    exact ss_cons (s_exprX (cex (rr := .er CS) C4 hr tk (dl (vr 0) dl_nil) (by show some (if isStr d = true then Res.ok .non else .er CS) = _; rw [hs]; rfl) q))
  | true =>
    obtain ⟨a, b, rfl, ha, hb, hab⟩ := isStr_tup hs
    refine ss_cons (s_exprX (cex (rr := .ok .non) C4 hr tk (dl (vr 0) dl_nil) (by show some (if isStr (.tup [a, b]) = true then Res.ok .non else .er CS) = _; rw [hs]; rfl) ?_))
    have hg : some (if isStr (.tup [a, b]) = true then Res.ok (sizeE a b) else .er CS) = some r := hg
    rw [hs, if_pos rfl] at hg
    cases hg
    refine ss_cons (su 1 2 (vr 0) ?_)
    rcases isEnd_cases ha with rfl | ⟨i, rfl⟩
    · exact ss_cons (s_if (pb_w (wo (m := true) (ct (m_isN (vr 1) (by nofun))) fun h => (by cases h))) (fun h => ss_one (s_ret pd_non (by exact q))) (fun h => (by cases h)))
    · rcases isEnd_cases hb with rfl | ⟨j, rfl⟩
      · exact ss_cons (s_if (pb_w (wo (ct (m_isN (vr 1) (by nofun))) fun h => (wo1 (ct (m_isN (vr 2) (by nofun)))))) (fun h => ss_one (s_ret pd_non (by exact q))) (fun h => (by cases h)))
      · exact ss_cons (s_if (pb_w (wo (ct (m_isN (vr 1) (by nofun))) fun h => (wo1 (ct (m_isN (vr 2) (by nofun)))))) (fun h => (by cases h)) (fun h => ss_nil (ss_one (s_ret (pd_add (pd_sub (vr 2) (vr 1)) pd_int) (by exact q)))))
theorem ok_shared {f CS : Addr} {fd : FuncData} (B : Bt mg) (C3 : Cal P w K mg base CX0 T 3 "is_stretch" 1 (pureF (g1 isStr))) (C4 : Cal P w K mg base (L2.CX P w) T 4 "check_stretch" 1 (rF (gChk isStr CS))) (F : Fun K "shared" "shared" sshared f fd) :
    FnOk P w K mg base (L2.CX P w) 5 f fd ["one", "other"] (toSp K T 2 (rF (gShr CS))) := by
  refine fn_okX F scshared fun cdv A outer s H EE as ω Q RX hr hl h => ?_
  obtain ⟨xs, r, rfl, hg, q⟩ := h
  have nd := scshared.nd
  match xs, hg with
  | [d1, d2], hg =>
  have hg : some (if isStr d1 then (if isStr d2 then Res.ok (shrD d1 d2) else .er CS) else .er CS) = some r := hg
  have tk := tkX (X := cxOf (L2.CX P w) P w K mg base ["one", "other", "firsts", "stretch", "lasts", "both"] "shared" (defScope sshared) f cdv A outer s H EE) (takes_of rfl rfl rfl rfl)
  cases h1 : isStr d1 with
  | false =>
    rw [h1] at hg
    cases hg
    exact ss_cons (s_exprX (cex (rr := .er CS) C4 hr tk (dl (vr 0) dl_nil) (by show some (if isStr d1 = true then Res.ok .non else .er CS) = _; rw [h1]; rfl) q))
  | true =>
    refine ss_cons (s_exprX (cex (rr := .ok .non) C4 hr tk (dl (vr 0) dl_nil) (by show some (if isStr d1 = true then Res.ok .non else .er CS) = _; rw [h1]; rfl) ?_))
    rw [h1, if_pos rfl] at hg
    cases h2 : isStr d2 with
    | false =>
      rw [h2] at hg
      cases hg
      exact ss_cons (s_exprX (cex (rr := .er CS) C4 hr tk (dl (vr 1) dl_nil) (by show some (if isStr d2 = true then Res.ok .non else .er CS) = _; rw [h2]; rfl) q))
    | true =>
      refine ss_cons (s_exprX (cex (rr := .ok .non) C4 hr tk (dl (vr 1) dl_nil) (by show some (if isStr d2 = true then Res.ok .non else .er CS) = _; rw [h2]; rfl) ?_))
      rw [h2, if_pos rfl] at hg
      cases hg
      obtain ⟨a, b, rfl, ha, hb, _⟩ := isStr_tup h1
      obtain ⟨c, d, rfl, hc, hd, _⟩ := isStr_tup h2
      have q : Q (.d (shrD (.tup [a, b]) (.tup [c, d]))) ω := q
      have e1 := ends_is (l := [Dt.tup [a, b], Dt.tup [c, d]]) fstD (fun x hx => by rcases List.mem_cons.mp hx with rfl | hx; exact ha; rcases List.mem_cons.mp hx with rfl | hx; exact hc; cases hx)
      have e2 := ends_is (l := [Dt.tup [a, b], Dt.tup [c, d]]) sndD (fun x hx => by rcases List.mem_cons.mp hx with rfl | hx; exact hb; rcases List.mem_cons.mp hx with rfl | hx; exact hd; cases hx)
      refine ss_cons (s_setLc (i := 2) (own := [("stretch", 3)]) (bt := fun d => !(fstD d).isN) (f := fstD) rfl nd rfl rfl (sw_true rfl rfl rfl (by decide +kernel)) (it_tup (pd_tup (ds := [_, _]) (dl (vr 0) (dl (vr 1) dl_nil)) szl)) (blkOk_by (N := ["one", "other", "firsts", "stretch", "lasts", "both"]) (sc := defScope sshared) (by decide +kernel))
        (fun _ _ _ _ _ => pg_name (i := 3) nd rfl (Or.inl rfl)) ga1 (by decide) szl (fun _ _ _ _ _ i x δ2 ω2 hx h2 => ?_) (fun i x hx => ⟨_, rfl⟩) ?_)
      · cases h2
        rcases mem2 hx with rfl | rfl
        · exact ⟨pf_one (ct (m_notN (pd_ixT (vr 3) pd_int rfl) (by nofun))), fun _ => pd_ixT (vr 3) pd_int rfl⟩
        · exact ⟨pf_one (ct (m_notN (pd_ixT (vr 3) pd_int rfl) (by nofun))), fun _ => pd_ixT (vr 3) pd_int rfl⟩
      rw [e1]
      refine ss_cons (s_setLc (i := 4) (own := [("stretch", 3)]) (bt := fun d => !(sndD d).isN) (f := sndD) rfl nd rfl rfl (sw_true rfl rfl rfl (by decide +kernel)) (it_tup (pd_tup (ds := [_, _]) (dl (vr 0) (dl (vr 1) dl_nil)) szl)) (blkOk_by (N := ["one", "other", "firsts", "stretch", "lasts", "both"]) (sc := defScope sshared) (by decide +kernel))
        (fun _ _ _ _ _ => pg_name (i := 3) nd rfl (Or.inl rfl)) ga1 (by decide) szl (fun _ _ _ _ _ i x δ2 ω2 hx h2 => ?_) (fun i x hx => ⟨_, rfl⟩) ?_)
      · cases h2
        rcases mem2 hx with rfl | rfl
        · exact ⟨pf_one (ct (m_notN (pd_ixT (vr 3) pd_int rfl) (by nofun))), fun _ => pd_ixT (vr 3) pd_int rfl⟩
        · exact ⟨pf_one (ct (m_notN (pd_ixT (vr 3) pd_int rfl) (by nofun))), fun _ => pd_ixT (vr 3) pd_int rfl⟩
      rw [e2]
      refine ss_cons (sv 5 (pd_tup (ds := [_, _]) (dl (pd_maxD rfl B.max (vr 2)) (dl (pd_minD rfl B.min (vr 4)) dl_nil)) szl) ?_)
      refine ss_one (s_ret (r := .d (shrD (.tup [a, b]) (.tup [c, d]))) (pd_if (pb_val (cd C3 (hr.mono (by decide)) tk0 (dl (vr 5) dl_nil) rfl)) (fun h => ?_) (fun h => ?_)) q)
      · have e : shrD (.tup [a, b]) (.tup [c, d]) = .tup [maxN (ends [a, c]), minN (ends [b, d])] := if_pos h
        rw [e]
        exact vr 5
      · have e : shrD (.tup [a, b]) (.tup [c, d]) = .non := if_neg (by rw [show isStr (Dt.tup [maxN (ends [fstD (.tup [a, b]), fstD (.tup [c, d])]), minN (ends [sndD (.tup [a, b]), sndD (.tup [c, d])])]) = false from h]; decide)
        rw [e]
        exact pd_non
end
end K01
namespace K01
open PySem PySem.Spec PyProof.Rows L2 Fl
abbrev sl_mixed : Stmt := top 17
abbrev sl_number : Stmt := top 19
abbrev sl_stretch : Stmt := top 20
abbrev sl_lies : Stmt := top 21
theorem scl_mixed : FnScope ["_law_cell", "_law_k", "_law_number_here"] ["_law_cell", "_law_k"] (defScope sl_mixed) := ⟨rfl, rfl, rfl, by decide +kernel, rfl, by decide +kernel, by decide +kernel⟩
theorem scl_number : FnScope ["_law_cell", "_law_k", "_law_number_here", "_law_wide", "_law_some", "_law_far"] ["_law_cell", "_law_k"] (defScope sl_number) := ⟨rfl, rfl, rfl, by decide +kernel, rfl, by decide +kernel, by decide +kernel⟩
theorem scl_stretch : FnScope ["_law_cell", "_law_k", "_law_number_here", "_law_one", "_law_other", "_law_some"] ["_law_cell", "_law_k"] (defScope sl_stretch) := ⟨rfl, rfl, rfl, by decide +kernel, rfl, by decide +kernel, by decide +kernel⟩
theorem scl_lies : FnScope ["_law_stretch_here", "_law_number_here"] ["_law_stretch_here", "_law_number_here"] (defScope sl_lies) := ⟨rfl, rfl, rfl, by decide +kernel, rfl, by decide +kernel, by decide +kernel⟩
def mixN (c k : Int) : Int := (c % 1000000007 + 7919 * k + 11) % 1000003
def mixed (c k : Int) : Int := mixN c k * mixN c k % 1000003 * mixN c k % 1000003
theorem mixed_lo (c k : Int) : 0 ≤ mixed c k := Int.emod_nonneg _ (by decide)
theorem mixed_hi (c k : Int) : mixed c k < 1000003 := Int.emod_lt_of_pos _ (by decide)
/-- a cell and a small number -/
def gMixed : List Dt → Dt → Prop := fun xs y => ∃ c k, xs = [.int c, .int k] ∧ 0 ≤ k ∧ k < 100000 ∧ y = .int (mixed c k)
theorem mulW {a b : Int} (ha : -(2 ^ 400) < a) (ha2 : a < 2 ^ 400) (hb : -(2 ^ 400) < b) (hb2 : b < 2 ^ 400) : CMulW a b := wide_mul (a := 400) (b := 400) (by omega) (by omega) (by decide) (by decide) (by decide)
theorem mulS {a b : Int} (ha : -(2 ^ 40) < a) (ha2 : a < 2 ^ 40) (hb : -(2 ^ 40) < b) (hb2 : b < 2 ^ 40) : CMulW a b := wide_mul (a := 40) (b := 40) (by omega) (by omega) (by decide) (by decide) (by decide)
theorem divS {a b : Int} (hb : 0 < b) (hb2 : b < 2 ^ 40) : CDivW a b := wide_div (b := 40) hb (by omega) (by decide) (by decide)
section
variable {P : Program} {w : World} {K : PySem.W.Frag} {mg : Str → Option Value} {base : Heap} {T : List (Addr × Str)}
theorem ok_l_mixed {f : Addr} {fd : FuncData} (F : Fun K "_law_mixed" "_law_mixed" sl_mixed f fd) : FnOk P w K mg base CX0 1 f fd ["_law_cell", "_law_k"] (toSp K T 2 (pureR gMixed)) := by
  refine fn_ok F scl_mixed fun cdv A outer s H as ω Q RX hr hl h => ?_
  obtain ⟨xs, y, rfl, ⟨c, k, rfl, hk0, hk1, rfl⟩, q⟩ := h
  have nd := scl_mixed.nd
  have h0 : 0 ≤ mixN c k := Int.emod_nonneg _ (by decide)
  have h1 : mixN c k < 1000003 := Int.emod_lt_of_pos _ (by decide)
  have h2 : 0 ≤ mixN c k * mixN c k % 1000003 := Int.emod_nonneg _ (by decide)
  have h3 : mixN c k * mixN c k % 1000003 < 1000003 := Int.emod_lt_of_pos _ (by decide)
  refine ss_cons (sv 2 (pd_mod (pd_add (pd_add (pd_mod (vr 0) pd_int (by decide)) (pd_mul pd_int (vr 1) (mulS (by decide) (by decide) (by omega) (by omega)))) pd_int) pd_int (by decide)) ?_)
  exact ss_one (s_ret (pd_mod (pd_mul (pd_mod (pd_mul (vr 2) (vr 2) (mulS (by omega) (by omega) (by omega) (by omega))) pd_int (by decide)) (vr 2) (mulS (by omega) (by omega) (by omega) (by omega))) pd_int (by decide)) (by exact q))
/-- sixty figures' bound, and the far numbers -/
abbrev T60 : Int := 10 ^ (60 : Int).toNat
def wideN (c k : Int) : Int := c % 10 ^ (40 : Int).toNat * 1000003 ^ (4 : Int).toNat + mixed c k * 1000003 + mixed c (k + 50)
def farN (c k : Int) : Int := T60 ^ (8 : Int).toNat + mixed c k % 9
def farP (c k : Int) : List Int := [farN c k, 0 - farN c k]
def numL (c k : Int) : List Int := [mixed c k % 19 - 9, mixed c k % 41 - 20, mixed c k % 199 - 99, wideN c k % (2 * T60 + 1) - T60, T60]
def numR (c k : Int) : List Int := [0 - T60, mixed c k % 19 - 9, (farP c k).getD (mixed c k / 9 % 2).toNat 0]
def numN (c k : Int) : Int := (numL c k ++ numR c k).getD (mixed c k / 200 % 8).toNat 0
def gNumber : List Dt → Dt → Prop := fun xs y => ∃ c k, xs = [.int c, .int k] ∧ 0 ≤ k ∧ k < 99000 ∧ y = .int (numN c k)
theorem at_ints {l : List Int} {i : Int} (h0 : 0 ≤ i) (h1 : i < l.length) : atI (l.map Dt.int) i = some (.int (l.getD i.toNat 0)) := by
  have e : i = (i.toNat : Int) := by omega
  have hl : i.toNat < l.length := by omega
  rw [e]
  refine atI_nat ?_
  rw [List.getElem?_map, Int.toNat_natCast, List.getElem?_eq_getElem hl]
  show some (Dt.int _) = some (Dt.int _)
  rw [List.getD_eq_getElem?_getD, List.getElem?_eq_getElem hl]
  rfl
theorem cpow1 : CPowW 10 40 := by unfold CPowW; decide +kernel
theorem cpow2 : CPowW 1000003 4 := by unfold CPowW; decide +kernel
theorem cpow3 : CPowW 10 60 := by unfold CPowW; decide +kernel
theorem cpow4 : CPowW T60 8 := by unfold CPowW; decide +kernel
theorem p40_pos : (0 : Int) < 10 ^ (40 : Int).toNat := by decide +kernel
theorem p40_hi : (10 : Int) ^ (40 : Int).toNat < 2 ^ 400 := by decide +kernel
theorem p4_lo : -(2 ^ 400) < (1000003 : Int) ^ (4 : Int).toNat := by decide +kernel
theorem p4_hi : (1000003 : Int) ^ (4 : Int).toNat < 2 ^ 400 := by decide +kernel
theorem t60_lo : -(2 ^ 400) < T60 := by decide +kernel
theorem t60_hi : T60 < 2 ^ 400 := by decide +kernel
theorem t60_pos : 0 < 2 * T60 + 1 := by decide +kernel
theorem ok_l_number {f : Addr} {fd : FuncData} (C1 : Cal P w K mg base CX0 T 1 "_law_mixed" 2 (pureR gMixed)) (F : Fun K "_law_number" "_law_number" sl_number f fd) : FnOk P w K mg base CX0 2 f fd ["_law_cell", "_law_k"] (toSp K T 2 (pureR gNumber)) := by
  refine fn_ok F scl_number fun cdv A outer s H as ω Q RX hr hl h => ?_
  obtain ⟨xs, y, rfl, ⟨c, k, rfl, hk0, hk1, rfl⟩, q⟩ := h
  have nd := scl_number.nd
  have m0 := mixed_lo c k
  have m1 := mixed_hi c k
  have c0 : 0 ≤ c % 10 ^ (40 : Int).toNat := Int.emod_nonneg _ (Int.ne_of_gt p40_pos)
  have c1 : c % 10 ^ (40 : Int).toNat < 2 ^ 400 := Int.lt_trans (Int.emod_lt_of_pos _ p40_pos) p40_hi
  refine ss_cons (sv 2 (cr C1 hr tk0 (dl (vr 0) (dl (vr 1) dl_nil)) ⟨c, k, rfl, hk0, by omega, rfl⟩) ?_)
  refine ss_cons (sv 3 (pd_add (pd_add (pd_mul (pd_mod (vr 0) (pd_pow pd_int pd_int cpow1) p40_pos) (pd_pow pd_int pd_int cpow2) (mulW (by omega) c1 p4_lo p4_hi)) (pd_mul (vr 2) pd_int (mulS (by omega) (by omega) (by decide) (by decide)))) (cr C1 hr tk0 (dl (vr 0) (dl (pd_add (vr 1) pd_int) dl_nil)) ⟨c, k + 50, rfl, by omega, by omega, rfl⟩)) ?_)
  refine ss_cons (sv 4 (pd_lst (ds := [_, _, _, _, _]) (dl (pd_sub (pd_mod (vr 2) pd_int (by decide)) pd_int) (dl (pd_sub (pd_mod (vr 2) pd_int (by decide)) pd_int) (dl (pd_sub (pd_mod (vr 2) pd_int (by decide)) pd_int) (dl (pd_sub (pd_mod (vr 3) (pd_add (pd_mul pd_int (pd_pow pd_int pd_int cpow3) (mulW (by decide) (by decide) t60_lo t60_hi)) pd_int) t60_pos) (pd_pow pd_int pd_int cpow3)) (dl (pd_pow pd_int pd_int cpow3) dl_nil))))) szl) ?_)
  refine ss_cons (sv 5 (pd_add (pd_pow (pd_pow pd_int pd_int cpow3) pd_int cpow4) (pd_mod (vr 2) pd_int (by decide))) ?_)
  refine ss_one (s_ret (pd_ixL (ds := (numL c k ++ numR c k).map Dt.int) (pd_cat (xs := (numL c k).map Dt.int) (ys := (numR c k).map Dt.int) (vr 4) (pd_lst (ds := [_, _, _]) (dl (pd_sub pd_int (pd_pow pd_int pd_int cpow3)) (dl (pd_sub (pd_mod (vr 2) pd_int (by decide)) pd_int) (dl (pd_ixL (ds := (farP c k).map Dt.int) (pd_lst (ds := [_, _]) (dl (vr 5) (dl (pd_sub pd_int (vr 5)) dl_nil)) szl) (pd_mod (pd_div (vr 2) pd_int (divS (by decide) (by decide))) pd_int (by decide)) (at_ints (by omega) (by show _ < (2 : Int); omega))) dl_nil))) szl) szl) (pd_mod (pd_div (vr 2) pd_int (divS (by decide) (by decide))) pd_int (by decide)) (at_ints (by omega) (by show _ < (8 : Int); omega))) (by exact q))
end
end K01
namespace K01
open PySem PySem.Spec PyProof.Rows L2 Fl
def lowN (c k : Int) : Int := if numN c (k + 1) ≤ numN c (k + 2) then numN c (k + 1) else numN c (k + 2)
def highN (c k : Int) : Int := if numN c (k + 1) ≤ numN c (k + 2) then numN c (k + 2) else numN c (k + 1)
theorem low_high (c k : Int) : lowN c k ≤ highN c k := by
  unfold lowN highN
  split <;> omega
theorem sorted2 (c k : Int) : ([lowN c k, highN c k] : List Int).Perm [numN c (k + 1), numN c (k + 2)] ∧ ([lowN c k, highN c k] : List Int).Pairwise (· ≤ ·) := by
  refine ⟨?_, by simpa using low_high c k⟩
  unfold lowN highN
  split
  · exact List.Perm.refl _
  · exact List.Perm.swap _ _ _
def strL (c k : Int) : List Dt := [.tup [.int (lowN c k), .int (highN c k)], .tup [.int (lowN c k), .int (lowN c k)], .tup [.int (lowN c k), .int (lowN c k + mixed c k / 12 % 6)], .tup [.non, .int (highN c k)], .tup [.int (lowN c k), .non], .tup [.int (highN c k), .int (highN c k + 1)]]
def strD (c k : Int) : Dt := if mixed c k % 12 = 11 then .tup [.non, .non] else (strL c k).getD (mixed c k % 12 % 6).toNat .non
def gStretch : List Dt → Dt → Prop := fun xs y => ∃ c k, xs = [.int c, .int k] ∧ 0 ≤ k ∧ k < 98000 ∧ y = strD c k
theorem at_dts {l : List Dt} {i : Int} (h0 : 0 ≤ i) (h1 : i < l.length) : atI l i = some (l.getD i.toNat .non) := by
  have e : i = (i.toNat : Int) := by omega
  have hl : i.toNat < l.length := by omega
  rw [e]
  refine atI_nat ?_
  rw [Int.toNat_natCast, List.getElem?_eq_getElem hl, List.getD_eq_getElem?_getD, List.getElem?_eq_getElem hl]
  rfl
theorem getD_all {l : List Dt} {n : Nat} {p : Dt → Prop} (h : ∀ d ∈ l, p d) (hn : n < l.length) : p (l.getD n .non) := by
  rw [List.getD_eq_getElem?_getD, List.getElem?_eq_getElem hn]
  exact h _ (List.getElem_mem hn)
theorem strD_is (c k : Int) : isStr (strD c k) = true := by
  have m0 := mixed_lo c k
  unfold strD
  split
  · rfl
  · refine getD_all (p := fun d => isStr d = true) (fun d hd => ?_) (by show _ < 6; omega)
    have lh := low_high c k
    have hm : 0 ≤ mixed c k / 12 % 6 := by omega
    simp only [strL, List.mem_cons, List.not_mem_nil, or_false] at hd
    rcases hd with rfl | rfl | rfl | rfl | rfl | rfl
    · show (true && true && decide (lowN c k ≤ highN c k)) = true
      simpa using lh
    · show (true && true && decide (lowN c k ≤ lowN c k)) = true
      simp
    · show (true && true && decide (lowN c k ≤ lowN c k + mixed c k / 12 % 6)) = true
      simp only [Bool.and_self, Bool.true_and, decide_eq_true_eq]
      omega
    · rfl
    · rfl
    · show (true && true && decide (highN c k ≤ highN c k + 1)) = true
      simp only [Bool.and_self, Bool.true_and, decide_eq_true_eq]
      omega
section
variable {P : Program} {w : World} {K : PySem.W.Frag} {mg : Str → Option Value} {base : Heap} {T : List (Addr × Str)}
theorem ok_l_stretch {f : Addr} {fd : FuncData} (B : Bt mg) (C1 : Cal P w K mg base CX0 T 1 "_law_mixed" 2 (pureR gMixed)) (C2 : Cal P w K mg base CX0 T 2 "_law_number" 2 (pureR gNumber)) (F : Fun K "_law_stretch" "_law_stretch" sl_stretch f fd) :
    FnOk P w K mg base CX0 3 f fd ["_law_cell", "_law_k"] (toSp K T 2 (pureR gStretch)) := by
  refine fn_ok F scl_stretch fun cdv A outer s H as ω Q RX hr hl h => ?_
  obtain ⟨xs, y, rfl, ⟨c, k, rfl, hk0, hk1, rfl⟩, q⟩ := h
  have nd := scl_stretch.nd
  have m0 := mixed_lo c k
  have m1 := mixed_hi c k
  obtain ⟨s1, s2⟩ := sorted2 c k
  refine ss_cons (sv 2 (cr C1 (hr.mono (by decide)) tk0 (dl (vr 0) (dl (vr 1) dl_nil)) ⟨c, k, rfl, hk0, by omega, rfl⟩) ?_)
  refine ss_cons (sul 3 4 (pd_sorted (ns := [numN c (k + 1), numN c (k + 2)]) (ms := [lowN c k, highN c k]) B.sorted (pd_lst (ds := [_, _]) (dl (cr C2 hr tk0 (dl (vr 0) (dl (pd_add (vr 1) pd_int) dl_nil)) ⟨c, k + 1, rfl, by omega, by omega, rfl⟩) (dl (cr C2 hr tk0 (dl (vr 0) (dl (pd_add (vr 1) pd_int) dl_nil)) ⟨c, k + 2, rfl, by omega, by omega, rfl⟩) dl_nil)) szl) s1 s2) ?_)
  refine ss_cons (sv 5 (pd_lst (ds := [_, _, _, _, _, _]) (dl (pd_tup (ds := [_, _]) (dl (vr 3) (dl (vr 4) dl_nil)) szl) (dl (pd_tup (ds := [_, _]) (dl (vr 3) (dl (vr 3) dl_nil)) szl) (dl (pd_tup (ds := [_, _]) (dl (vr 3) (dl (pd_add (vr 3) (pd_mod (pd_div (vr 2) pd_int (divS (by decide) (by decide))) pd_int (by decide))) dl_nil)) szl) (dl (pd_tup (ds := [_, _]) (dl pd_non (dl (vr 4) dl_nil)) szl) (dl (pd_tup (ds := [_, _]) (dl (vr 3) (dl pd_non dl_nil)) szl) (dl (pd_tup (ds := [_, _]) (dl (vr 4) (dl (pd_add (vr 4) pd_int) dl_nil)) szl) dl_nil)))))) szl) ?_)
  refine ss_cons (s_if (ct (m_eq hr.units (pd_mod (vr 2) pd_int (by decide)) pd_int eqs_int eqs_int)) (fun h => ?_) (fun h => ?_))
  · have h : mixed c k % 12 = 11 := by simpa [Dt.eqv, Dt.py, PyData.eqv] using h
    unfold strD at q
    rw [if_pos h] at q
    exact ss_one (s_ret (pd_tup (ds := [_, _]) (dl pd_non (dl pd_non dl_nil)) szl) (by exact q))
  · have h : ¬ mixed c k % 12 = 11 := by simpa [Dt.eqv, Dt.py, PyData.eqv] using h
    unfold strD at q
    rw [if_neg h] at q
    refine ss_nil ?_
    exact ss_one (s_ret (pd_ixL (ds := strL c k) (vr 5) (pd_mod (pd_mod (vr 2) pd_int (by decide)) pd_int (by decide)) (at_dts (by omega) (by show _ < (6 : Int); omega))) (by exact q))
/-- a stretch and a number: whether it lies in it -/
def gLies : List Dt → Dt → Prop := fun xs y => ∃ a b i, xs = [.tup [a, b], .int i] ∧ isEnd a = true ∧ isEnd b = true ∧ y = .bl (lies a b (.int i))
theorem ok_l_lies {f : Addr} {fd : FuncData} (F : Fun K "_law_lies" "_law_lies" sl_lies f fd) : FnOk P w K mg base CX0 1 f fd ["_law_stretch_here", "_law_number_here"] (toSp K T 2 (pureR gLies)) := by
  refine fn_ok F scl_lies fun cdv A outer s H as ω Q RX hr hl h => ?_
  obtain ⟨xs, y, rfl, ⟨a, b, i, rfl, ha, hb, rfl⟩, q⟩ := h
  have nd := scl_lies.nd
  have last : ∀ (q : Q (.d (.bl (leE (.int i) b))) ω), SD (cxOf CX0 P w K mg base ["_law_stretch_here", "_law_number_here"] "_law_lies" (defScope sl_lies) f cdv A outer s H E0).nox T XN ((defBody sl_lies).drop 1) [.d (.tup [a, b]), .d (.int i)] ω { nx := fun _ ω' => Q (.d .non) ω', rt := Q } := fun q => by
    rcases isEnd_cases hb with rfl | ⟨j, rfl⟩
    · exact ss_one (s_ret (pd_or (m := true) (cv (m_isN (pd_ixT (vr 0) pd_int rfl) (by nofun))) fun h => by cases h) (by exact q))
    · exact ss_one (s_ret (pd_or (cv (m_isN (pd_ixT (vr 0) pd_int rfl) (by nofun))) fun h => (pd_one (cv (m_le (vr 1) (pd_ixT (vr 0) pd_int rfl))))) (by exact q))
  rcases isEnd_cases ha with rfl | ⟨j, rfl⟩
  · refine ss_cons (s_if (pb_w (wa (m := false) (ct (m_notN (pd_ixT (vr 0) pd_int rfl) (by nofun))) fun h => by cases h)) (fun h => by cases h) (fun h => ss_nil ?_))
    exact last q
  · refine ss_cons (s_if (pb_w (wa (ct (m_notN (pd_ixT (vr 0) pd_int rfl) (by nofun))) fun h => (wa1 (ct (m_lt (vr 1) (pd_ixT (vr 0) pd_int rfl)))))) (fun h => ?_) (fun h => ss_nil ?_))
    · have e : lies (.int j) b (.int i) = false := by
        have h : decide (i < j) = true := h
        show (!decide (i < j) && _) = false
        rw [h]
        rfl
      rw [e] at q
      exact ss_one (s_ret pd_bl (by exact q))
    · have e : lies (.int j) b (.int i) = leE (.int i) b := by
        have h : decide (i < j) = false := h
        show (!decide (i < j) && _) = _
        rw [h]
        rfl
      rw [e] at q
      exact last q
end
end K01
namespace K01
open PySem PySem.Spec PyProof.Rows L2 Fl
abbrev sl_word : Stmt := top 23
abbrev sl_shared : Stmt := top 24
abbrev sl_good : Stmt := top 25
theorem scl_word : FnScope ["_law_e", "_law_some", "_law_word_here", "_law_is_it"] ["_law_e"] (defScope sl_word) := ⟨rfl, rfl, rfl, by decide +kernel, rfl, by decide +kernel, by decide +kernel⟩
theorem scl_shared : FnScope ["_law_one", "_law_other", "_law_firsts", "_law_end", "_law_lasts", "_law_first", "_law_last"] ["_law_one", "_law_other"] (defScope sl_shared) := ⟨rfl, rfl, rfl, by decide +kernel, rfl, by decide +kernel, by decide +kernel⟩
theorem scl_good : FnScope ["_law_one", "_law_other", "_law_number_here", "_law_told", "_law_due", "_law_found"] ["_law_one", "_law_other", "_law_number_here"] (defScope sl_good) := ⟨rfl, rfl, rfl, by decide +kernel, rfl, by decide +kernel, by decide +kernel⟩
/-- the error classes: cls 0 .. cls 4 straight under the one at CE -/
structure Errs (K : PySem.W.Frag) (mg : Str → Option Value) (CE : Addr) (cls : Nat → Addr) : Prop where
  n0 : mg "BadNumber" = some (.ref (cls 0))
  n1 : mg "BadStretch" = some (.ref (cls 1))
  n2 : mg "BadKeeper" = some (.ref (cls 2))
  n3 : mg "BadText" = some (.ref (cls 3))
  n4 : mg "NoSuch" = some (.ref (cls 4))
  ke : mg "KeepError" = some (.ref CE)
  ve : mg "ValueError" = none
  x : ∀ i, i < 5 → L2.ExcC K (cls i)
  ex : ∀ i, i < 5 → PySem.W.exmOne K (.ref (cls i)) (.ref CE) = some true
  kit : ∀ i j, i < 5 → j < 5 → PySem.W.kitOne K (.ref (cls i)) (.ref (cls j)) = some (decide (i = j))
  kv : ∀ i, i < 5 → PySem.W.kitOne K (.ref (cls i)) (.type "ValueError") = some true
theorem tyb_ve : bootBuiltins "ValueError" = some (.type "ValueError") := by decide +kernel
def wordN (i : Nat) : Str := (["number", "stretch", "keeper", "text", "such"] : List Str).getD i "else"
def gWord (cls : Nat → Addr) : FSp := fun as ω P _ => (as = [.d .non] ∧ P (.d (.lst [.str "done"])) ω) ∨ ∃ i, i < 5 ∧ as = [.exn (cls i)] ∧ P (.d (.lst [.str (wordN i)])) ω
def wordL (i : Nat) : List Dt := [.tup [.str "number", .bl (decide (i = 0))], .tup [.str "stretch", .bl (decide (i = 1))], .tup [.str "keeper", .bl (decide (i = 2))], .tup [.str "text", .bl (decide (i = 3))], .tup [.str "such", .bl (decide (i = 4))], .tup [.str "else", .bl (!true)]]
def isT : Dt → Bool
  | .bl b => b
  | _ => false
theorem wordL_is {i : Nat} (h : i < 5) : ((wordL i).filter fun d => isT (sndD d)).map fstD = [.str (wordN i)] := by
  match i, h with
  | 0, _ => rfl
  | 1, _ => rfl
  | 2, _ => rfl
  | 3, _ => rfl
  | 4, _ => rfl
theorem wordL_mem {i : Nat} {d : Dt} (h : d ∈ wordL i) : ∃ z b, d = .tup [.str z, .bl b] := by
  simp only [wordL, List.mem_cons, List.not_mem_nil, or_false] at h
  rcases h with rfl | rfl | rfl | rfl | rfl | rfl <;> exact ⟨_, _, rfl⟩
section
variable {P : Program} {w : World} {K : PySem.W.Frag} {mg : Str → Option Value} {base : Heap} {T : List (Addr × Str)} {CE : Addr} {cls : Nat → Addr}
theorem ok_l_word {f : Addr} {fd : FuncData} (B : Bt mg) (E : Errs K mg CE cls) (F : Fun K "_law_word" "_law_word" sl_word f fd) : FnOk P w K mg base CX0 1 f fd ["_law_e"] (toSp K T 1 (gWord cls)) := by
  refine fn_ok F scl_word fun cdv A outer s H as ω Q RX hr hl h => ?_
  have nd := scl_word.nd
  rcases h with ⟨rfl, q⟩ | ⟨i, hi, rfl, q⟩
  · exact ss_cons (s_if (ct (m_isN (vr 0) (by nofun))) (fun h => ss_one (s_ret (pd_lst (ds := [_]) (dl pd_str dl_nil) szl) (by exact q))) (fun h => by cases h))
  · refine ss_cons (s_if (ct (m_isN (vr 0) (by nofun))) (fun h => by cases h) (fun h => ss_nil ?_))
    refine ss_cons (sv 1 (pd_lst (ds := [_, _]) (dl (pd_tup (ds := [_, _]) (dl pd_str (dl (pd_isX B.isinstance (E.x i hi) (vr 0) (pd_cls E.n0) (E.kit i 0 hi (by decide))) dl_nil)) szl) (dl (pd_tup (ds := [_, _]) (dl pd_str (dl (pd_isX B.isinstance (E.x i hi) (vr 0) (pd_cls E.n1) (E.kit i 1 hi (by decide))) dl_nil)) szl) dl_nil)) szl) ?_)
    refine ss_cons (sv 1 (pd_cat (vr 1) (pd_lst (ds := [_, _]) (dl (pd_tup (ds := [_, _]) (dl pd_str (dl (pd_isX B.isinstance (E.x i hi) (vr 0) (pd_cls E.n2) (E.kit i 2 hi (by decide))) dl_nil)) szl) (dl (pd_tup (ds := [_, _]) (dl pd_str (dl (pd_isX B.isinstance (E.x i hi) (vr 0) (pd_cls E.n3) (E.kit i 3 hi (by decide))) dl_nil)) szl) dl_nil)) szl) szl) ?_)
    refine ss_cons (sv 1 (pd_cat (vr 1) (pd_lst (ds := [_, _]) (dl (pd_tup (ds := [_, _]) (dl pd_str (dl (pd_isX B.isinstance (E.x i hi) (vr 0) (pd_cls E.n4) (E.kit i 4 hi (by decide))) dl_nil)) szl) (dl (pd_tup (ds := [_, _]) (dl pd_str (dl (pd_not (pd_isXT B.isinstance (E.x i hi) (vr 0) (pd_ty E.ve tyb_ve) (E.kv i hi))) dl_nil)) szl) dl_nil)) szl) szl) ?_)
    have q : Q (.d (.lst (((wordL i).filter fun d => isT (sndD d)).map fstD))) ω := by rw [wordL_is hi]; exact q
    refine ss_one (s_ret (pd_lc (ds := wordL i) (own := [("_law_word_here", 2), ("_law_is_it", 3)]) (bt := fun d => isT (sndD d)) (f := fstD) rfl nd (it_lst (vr 1)) (blkOk_by (N := ["_law_e", "_law_some", "_law_word_here", "_law_is_it"]) (sc := defScope sl_word) (by decide +kernel))
      (fun _ _ _ _ _ => pg_tup rfl (pgs_cons (pg_name (i := 2) nd rfl (Or.inl rfl)) (pgs_cons (pg_name (i := 3) nd rfl (Or.inl rfl)) pgs_nil))) ga2 (by decide) szl (fun _ _ _ _ _ i x δ2 ω2 hx h2 => ?_) (fun i x hx => ?_)) (by exact q))
    · obtain ⟨z, b, rfl⟩ := wordL_mem (List.mem_of_getElem? hx)
      cases h2
      exact ⟨pf_one (pb_val (vr 3)), fun _ => vr 2⟩
    · obtain ⟨z, b, rfl⟩ := wordL_mem (List.mem_of_getElem? hx)
      exact ⟨_, rfl⟩
/-- what the law's own shared makes of two stretches is what the program's makes -/
def gLShr : List Dt → Dt → Prop := fun xs y => ∃ s t, xs = [s, t] ∧ isStr s = true ∧ isStr t = true ∧ y = shrD s t
theorem maxN_end (l : List Int) : isEnd (maxN l) = true := by
  cases l <;> rfl
theorem minN_end (l : List Int) : isEnd (minN l) = true := by
  cases l <;> rfl
theorem ok_l_shared {f : Addr} {fd : FuncData} (B : Bt mg) (F : Fun K "_law_shared" "_law_shared" sl_shared f fd) : FnOk P w K mg base CX0 1 f fd ["_law_one", "_law_other"] (toSp K T 2 (pureR gLShr)) := by
  refine fn_ok F scl_shared fun cdv A outer s H as ω Q RX hr hl h => ?_
  obtain ⟨xs, y, rfl, ⟨s1, t1, rfl, hs, ht, rfl⟩, q⟩ := h
  have nd := scl_shared.nd
  obtain ⟨a, b, rfl, ha, hb, _⟩ := isStr_tup hs
  obtain ⟨c, d, rfl, hc, hd, _⟩ := isStr_tup ht
  have e1 := ends_is (l := [a, c]) (fun d => d) (fun x hx => by rcases List.mem_cons.mp hx with rfl | hx; exact ha; rcases List.mem_cons.mp hx with rfl | hx; exact hc; cases hx)
  have e2 := ends_is (l := [b, d]) (fun d => d) (fun x hx => by rcases List.mem_cons.mp hx with rfl | hx; exact hb; rcases List.mem_cons.mp hx with rfl | hx; exact hd; cases hx)
  refine ss_cons (s_setLc (i := 2) (own := [("_law_end", 3)]) (bt := fun d => !d.isN) (f := fun d => d) rfl nd rfl rfl (sw_true rfl rfl rfl (by decide +kernel)) (it_tup (pd_tup (ds := [_, _]) (dl (pd_ixT (vr 0) pd_int rfl) (dl (pd_ixT (vr 1) pd_int rfl) dl_nil)) szl)) (blkOk_by (N := ["_law_one", "_law_other", "_law_firsts", "_law_end", "_law_lasts", "_law_first", "_law_last"]) (sc := defScope sl_shared) (by decide +kernel))
    (fun _ _ _ _ _ => pg_name (i := 3) nd rfl (Or.inl rfl)) ga1 (by decide) szl (fun _ _ _ _ _ i x δ2 ω2 hx h2 => ?_) (fun i x hx => ⟨_, rfl⟩) ?_)
  · cases h2
    exact ⟨pf_one (ct (m_notN (x := .d x) (vr 3) (by nofun))), fun _ => vr 3⟩
  rw [e1]
  refine ss_cons (s_setLc (i := 4) (own := [("_law_end", 3)]) (bt := fun d => !d.isN) (f := fun d => d) rfl nd rfl rfl (sw_true rfl rfl rfl (by decide +kernel)) (it_tup (pd_tup (ds := [_, _]) (dl (pd_ixT (vr 0) pd_int rfl) (dl (pd_ixT (vr 1) pd_int rfl) dl_nil)) szl)) (blkOk_by (N := ["_law_one", "_law_other", "_law_firsts", "_law_end", "_law_lasts", "_law_first", "_law_last"]) (sc := defScope sl_shared) (by decide +kernel))
    (fun _ _ _ _ _ => pg_name (i := 3) nd rfl (Or.inl rfl)) ga1 (by decide) szl (fun _ _ _ _ _ i x δ2 ω2 hx h2 => ?_) (fun i x hx => ⟨_, rfl⟩) ?_)
  · cases h2
    exact ⟨pf_one (ct (m_notN (x := .d x) (vr 3) (by nofun))), fun _ => vr 3⟩
  rw [e2]
  refine ss_cons (sv 5 (pd_maxD rfl B.max (vr 2)) ?_)
  refine ss_cons (sv 6 (pd_minD rfl B.min (vr 4)) ?_)
  have q : Q (.d (if isStr (.tup [maxN (ends [a, c]), minN (ends [b, d])]) = true then .tup [maxN (ends [a, c]), minN (ends [b, d])] else .non)) ω := q
  have h1 := maxN_end (ends [a, c])
  have h2 := minN_end (ends [b, d])
  have em : List.map (fun d => d) [a, c] = [a, c] := rfl
  have en : List.map (fun d => d) [b, d] = [b, d] := rfl
  rw [em, en]
  generalize maxN (ends [a, c]) = mx at q h1 ⊢
  generalize minN (ends [b, d]) = mn at q h2 ⊢
  have fin : ∀ (q : Q (.d (.tup [mx, mn])) ω), SD (cxOf CX0 P w K mg base ["_law_one", "_law_other", "_law_firsts", "_law_end", "_law_lasts", "_law_first", "_law_last"] "_law_shared" (defScope sl_shared) f cdv A outer s H E0).nox T XN ((defBody sl_shared).drop 5) [.d (.tup [a, b]), .d (.tup [c, d]), .d (.lst ((ends [a, c]).map .int)), .un, .d (.lst ((ends [b, d]).map .int)), .d mx, .d mn] ω { nx := fun _ ω' => Q (.d .non) ω', rt := Q } := fun q =>
    ss_one (s_ret (pd_tup (ds := [_, _]) (dl (vr 5) (dl (vr 6) dl_nil)) szl) (by exact q))
  rcases isEnd_cases h1 with rfl | ⟨i, rfl⟩
  · refine ss_cons (s_if (pb_w (wa (m := false) (ct (m_notN (vr 5) (by nofun))) fun h => by cases h)) (fun h => by cases h) (fun h => ss_nil ?_))
    refine fin ?_
    rw [if_pos (by show (true && isEnd mn && true) = true; rw [h2]; rfl)] at q
    exact q
  · rcases isEnd_cases h2 with rfl | ⟨j, rfl⟩
    · refine ss_cons (s_if (pb_w (wa (m := (false && false)) (ct (m_notN (vr 5) (by nofun))) fun _ => wa (m := false) (ct (m_notN (x := .d .non) (vr 6) (by nofun))) fun h => by cases h)) (fun h => by cases h) (fun h => ss_nil ?_))
      exact fin q
    · refine ss_cons (s_if (pb_w (wa (ct (m_notN (vr 5) (by nofun))) fun h => (wa (ct (m_notN (vr 6) (by nofun))) fun h => (wa1 (ct (m_lt (vr 6) (vr 5))))))) (fun h => ?_) (fun h => ss_nil ?_))
      · have h : j < i := of_decide_eq_true (show decide (j < i) = true from h)
        rw [if_neg (by show ¬ (true && true && decide (i ≤ j)) = true; simpa using h)] at q
        exact ss_one (s_ret pd_non (by exact q))
      · have h : i ≤ j := Int.not_lt.mp (of_decide_eq_false (show decide (j < i) = false from h))
        rw [if_pos (by show (true && true && decide (i ≤ j)) = true; simpa using h)] at q
        exact fin q
end
end K01
namespace K01
open PySem PySem.Spec PyProof.Rows L2 Fl
theorem kbb : kitB "bool" "bool" = some true := by decide +kernel
theorem kib : kitB "int" "bool" = some false := by decide +kernel
theorem knb : kitB "NoneType" "bool" = some false := by decide +kernel
theorem ktt : kitB "tuple" "tuple" = some true := by decide +kernel
theorem eqs_end {d : Dt} (h : isEnd d = true) : Eqs d := by
  rcases isEnd_cases h with rfl | ⟨i, rfl⟩
  · exact eqs_non
  · exact eqs_int
theorem eqs_str {d : Dt} (h : isStr d = true) : Eqs d := by
  obtain ⟨a, b, rfl, ha, hb, _⟩ := isStr_tup h
  rcases isEnd_cases ha with rfl | ⟨i, rfl⟩ <;> rcases isEnd_cases hb with rfl | ⟨j, rfl⟩ <;> exact ⟨rfl, rfl⟩
theorem eqv_end {d : Dt} (h : isEnd d = true) : d.eqv d = true := by
  rcases isEnd_cases h with rfl | ⟨i, rfl⟩
  · rfl
  · simp [Dt.eqv, Dt.py, PyData.eqv]
theorem eqv_str {d : Dt} (h : isStr d = true) : d.eqv d = true := by
  obtain ⟨a, b, rfl, ha, hb, _⟩ := isStr_tup h
  rcases isEnd_cases ha with rfl | ⟨i, rfl⟩ <;> rcases isEnd_cases hb with rfl | ⟨j, rfl⟩ <;> simp [Dt.eqv, Dt.py, Dt.pyL, PyData.eqv, PyData.eqvAll]
theorem eqv_bl (b : Bool) : (Dt.bl b).eqv (.bl b) = true := by
  cases b <;> rfl
theorem shr_cases (s t : Dt) : shrD s t = .non ∨ isStr (shrD s t) = true := by
  unfold shrD
  by_cases h : isStr (.tup [maxN (ends [fstD s, fstD t]), minN (ends [sndD s, sndD t])]) = true
  · right
    show isStr (if _ then _ else _) = true
    rw [if_pos h]
    exact h
  · left
    exact if_neg h
theorem size_end (a b : Dt) : isEnd (sizeE a b) = true := by
  unfold sizeE
  split <;> rfl
theorem size_kit (a b : Dt) : kitB (sizeE a b).ty "bool" = some false := by
  unfold sizeE
  split
  · exact kib
  · exact knb
theorem max_comm (a c : Dt) (ha : isEnd a = true) (hc : isEnd c = true) : maxN (ends [a, c]) = maxN (ends [c, a]) := by
  rcases isEnd_cases ha with rfl | ⟨i, rfl⟩ <;> rcases isEnd_cases hc with rfl | ⟨j, rfl⟩ <;> try rfl
  show Dt.int (if i < j then j else i) = Dt.int (if j < i then i else j)
  congr 1
  split <;> split <;> omega
theorem min_comm (a c : Dt) (ha : isEnd a = true) (hc : isEnd c = true) : minN (ends [a, c]) = minN (ends [c, a]) := by
  rcases isEnd_cases ha with rfl | ⟨i, rfl⟩ <;> rcases isEnd_cases hc with rfl | ⟨j, rfl⟩ <;> try rfl
  show Dt.int (if j < i then j else i) = Dt.int (if i < j then i else j)
  congr 1
  split <;> split <;> omega
theorem shr_comm {s t : Dt} (hs : isStr s = true) (ht : isStr t = true) : shrD t s = shrD s t := by
  obtain ⟨a, b, rfl, ha, hb, _⟩ := isStr_tup hs
  obtain ⟨c, d, rfl, hc, hd, _⟩ := isStr_tup ht
  unfold shrD fstD sndD
  rw [max_comm c a hc ha, min_comm d b hd hb]
theorem max_same (a : Dt) (ha : isEnd a = true) : maxN (ends [a, a]) = a := by
  rcases isEnd_cases ha with rfl | ⟨i, rfl⟩
  · rfl
  · show Dt.int (if i < i then i else i) = _
    simp
theorem min_same (a : Dt) (ha : isEnd a = true) : minN (ends [a, a]) = a := by
  rcases isEnd_cases ha with rfl | ⟨i, rfl⟩
  · rfl
  · show Dt.int (if i < i then i else i) = _
    simp
theorem shr_same {s : Dt} (hs : isStr s = true) : shrD s s = s := by
  obtain ⟨a, b, rfl, ha, hb, _⟩ := isStr_tup hs
  unfold shrD fstD sndD
  rw [max_same a ha, min_same b hb]
  exact if_pos hs
theorem in_non {a b : Dt} (ha : isEnd a = true) (hb : isEnd b = true) : (inD .non [a, b] = true → sizeE a b = .non) ∧ (inD .non [a, b] = false → ∃ i j, a = .int i ∧ b = .int j) := by
  rcases isEnd_cases ha with rfl | ⟨i, rfl⟩ <;> rcases isEnd_cases hb with rfl | ⟨j, rfl⟩
  · exact ⟨fun _ => rfl, (fun h => by cases h)⟩
  · exact ⟨fun _ => rfl, (fun h => by cases h)⟩
  · exact ⟨fun _ => rfl, (fun h => by cases h)⟩
  · exact ⟨(fun h => by cases h), fun _ => ⟨i, j, rfl, rfl⟩⟩
theorem end_flat {d : Dt} (h : isEnd d = true) : d.flat = true := by
  rcases isEnd_cases h with rfl | ⟨i, rfl⟩ <;> rfl
def gGood : List Dt → Dt → Prop := fun xs y => ∃ s t i, xs = [s, t, .int i] ∧ isStr s = true ∧ isStr t = true ∧ y = .bl true
section
variable {P : Program} {w : World} {K : PySem.W.Frag} {mg : Str → Option Value} {base : Heap} {T : List (Addr × Str)} {CS CN : Addr}
theorem ok_l_good {f : Addr} {fd : FuncData} (B : Bt mg) (Ch : Cal P w K mg base (L2.CX P w) T 5 "has_number" 2 (rF (gHas CS CN))) (Ci : Cal P w K mg base CX0 T 3 "is_stretch" 1 (pureF (g1 isStr))) (Cz : Cal P w K mg base (L2.CX P w) T 5 "size_of" 1 (rF (gSize CS)))
    (Cs : Cal P w K mg base (L2.CX P w) T 5 "shared" 2 (rF (gShr CS))) (Cl : Cal P w K mg base CX0 T 1 "_law_lies" 2 (pureR gLies)) (Cm : Cal P w K mg base CX0 T 1 "_law_shared" 2 (pureR gLShr)) (F : Fun K "_law_good" "_law_good" sl_good f fd) :
    FnOk P w K mg base CX0 6 f fd ["_law_one", "_law_other", "_law_number_here"] (toSp K T 3 (pureR gGood)) := by
  refine fn_ok F scl_good fun cdv A outer s H as ω Q RX hr hl h => ?_
  obtain ⟨xs, y, rfl, ⟨s1, t1, i, rfl, hs, ht, rfl⟩, q⟩ := h
  have nd := scl_good.nd
  obtain ⟨a, b, rfl, ha, hb, _⟩ := isStr_tup hs
  have gh : gHas CS CN [.tup [a, b], .int i] = some (.ok (.bl (lies a b (.int i)))) := by
    show some (if isStr (.tup [a, b]) = true then _ else _) = _
    rw [hs]
    rfl
  have gi : g1 isStr [.tup [a, b]] = some (.bl true) := by
    show some (Dt.bl (isStr (.tup [a, b]))) = _
    rw [hs]
  have gz : gSize CS [.tup [a, b]] = some (.ok (sizeE a b)) := by
    show some (if isStr (.tup [a, b]) = true then _ else _) = _
    rw [hs]
    rfl
  have gs : ∀ u v, isStr u = true → isStr v = true → gShr CS [u, v] = some (.ok (shrD u v)) := fun u v hu hv => by
    show some (if isStr u = true then (if isStr v = true then _ else _) else _) = _
    rw [hu, hv]
    rfl
  refine ss_cons (sv 3 (ce Ch hr tkN (dl (vr 0) (dl (vr 2) dl_nil)) gh) ?_)
  refine ss_cons (s_if (pb_w (wo (ct (m_notBl (cd Ci (hr.mono (by decide)) tk0 (dl (vr 0) dl_nil) gi) pd_bl)) fun _ => (wo (pb_not (pb_val (pd_isi B.isinstance (vr 3) (pd_ty B.bool tyb_bool) (by exact kbb)))) fun _ => (wo1 (ct (m_ne hr.units (vr 3) (cr Cl (hr.mono (by decide)) tk0 (dl (vr 0) (dl (vr 2) dl_nil)) ⟨a, b, i, rfl, ha, hb, rfl⟩) eqs_bl eqs_bl)))))) (fun h => ?_) (fun h => ss_nil ?_))
  · rw [eqv_bl] at h
    exact absurd h (by decide)
  refine ss_cons (sv 4 (r := .d (sizeE a b)) (ω1 := ω) (pd_if (ct (m_inT pd_non (vr 0) rfl (by show (a.flat && (b.flat && true)) = true; rw [end_flat ha, end_flat hb]; rfl))) (fun h => ?_) (fun h => ?_)) ?_)
  · rw [(in_non ha hb).1 h]
    exact pd_non
  · obtain ⟨i1, j1, rfl, rfl⟩ := (in_non ha hb).2 h
    exact pd_add (pd_sub (pd_ixT (vr 0) pd_int rfl) (pd_ixT (vr 0) pd_int rfl)) pd_int
  have es := eqs_end (size_end a b)
  refine ss_cons (s_if (pb_w (wo (ct (m_ne hr.units (ce Cz hr tkN (dl (vr 0) dl_nil) gz) (vr 4) es es)) fun _ => (wo1 (pb_val (pd_isi B.isinstance (ce Cz hr tkN (dl (vr 0) dl_nil) gz) (pd_ty B.bool tyb_bool) (by exact size_kit a b)))))) (fun h => ?_) (fun h => ss_nil ?_))
  · rw [eqv_end (size_end a b)] at h
    exact absurd h (by decide)
  refine ss_cons (sv 5 (ce Cs hr tkN (dl (vr 0) (dl (vr 1) dl_nil)) (gs _ _ hs ht)) ?_)
  have e1 : gShr CS [t1, .tup [a, b]] = some (.ok (shrD (.tup [a, b]) t1)) := by rw [gs _ _ ht hs, shr_comm hs ht]
  have e2 : gShr CS [.tup [a, b], .tup [a, b]] = some (.ok (.tup [a, b])) := by rw [gs _ _ hs hs, shr_same hs]
  have e0 := shr_cases (.tup [a, b]) t1
  have el : gLShr [.tup [a, b], t1] (shrD (.tup [a, b]) t1) := ⟨_, _, rfl, hs, ht, rfl⟩
  generalize shrD (.tup [a, b]) t1 = r at e0 e1 el ⊢
  have er : Eqs r := by
    rcases e0 with rfl | h
    · exact eqs_non
    · exact eqs_str h
  have ev : r.eqv r = true := by
    rcases e0 with rfl | h
    · rfl
    · exact eqv_str h
  have last : SD (cxOf CX0 P w K mg base ["_law_one", "_law_other", "_law_number_here", "_law_told", "_law_due", "_law_found"] "_law_good" (defScope sl_good) f cdv A outer s H E0).nox T XN ((defBody sl_good).drop 6) [.d (.tup [a, b]), .d t1, .d (.int i), .d (.bl (lies a b (.int i))), .d (sizeE a b), .d r] ω { nx := fun _ ω' => Q (.d .non) ω', rt := Q } := by
    refine ss_one (s_ret (pd_and (cv (m_eq hr.units (ce Cs hr tkN (dl (vr 1) (dl (vr 0) dl_nil)) e1) (vr 5) er er)) fun _ => (pd_one (cv (m_eq hr.units (ce Cs hr tkN (dl (vr 0) (dl (vr 0) dl_nil)) e2) (vr 0) (eqs_str hs) (eqs_str hs))))) ?_)
    rw [ev, eqv_str hs]
    exact q
  rcases e0 with rfl | h0
  · refine ss_cons (s_if (pb_w (wo (ct (m_ne hr.units (vr 5) (cr Cm (hr.mono (by decide)) tk0 (dl (vr 0) (dl (vr 1) dl_nil)) el) er er)) fun _ => (wo1 (pb_w (wa (m := false) (ct (m_notN (vr 5) (by nofun))) fun h => by cases h))))) (fun h => ?_) (fun h => ss_nil ?_))
    · exact absurd h (by decide)
    · exact last
  · obtain ⟨c, d, rfl, _⟩ := isStr_tup h0
    refine ss_cons (s_if (pb_w (wo (ct (m_ne hr.units (vr 5) (cr Cm (hr.mono (by decide)) tk0 (dl (vr 0) (dl (vr 1) dl_nil)) el) er er)) fun _ => (wo1 (pb_w (wa (ct (m_notN (vr 5) (by nofun))) fun _ => (wa1 (pb_not (pb_val (pd_isi B.isinstance (vr 5) (pd_ty B.tuple tyb_tuple) (by exact ktt)))))))))) (fun h => ?_) (fun h => ss_nil ?_))
    · rw [ev] at h
      exact absurd h (by simp [Sl.isN, Dt.isN])
    · exact last
end
end K01
namespace K01
open PySem PySem.Spec PyProof.Rows L2 Fl
open LamX (lamCx lamEnv lamS_by TabB)
abbrev sl_kept : Stmt := top 22
abbrev sl_refused : Stmt := top 26
theorem scl_refused : FnScope ["_law_one", "_law_number_here", "_law_more", "_law_odd", "_law_wrong", "_law_thing", "_law_told"] ["_law_one", "_law_number_here", "_law_more"] (defScope sl_refused) := ⟨rfl, rfl, rfl, by decide +kernel, rfl, by decide +kernel, by decide +kernel⟩
def oddL : List Dt := [.bl true, .non, .str "1", .lst [.int 1], .tup [.int 1], .emp, .bl false]
def oddD (m : Int) : Dt := oddL.getD (m % 7).toNat .non
def orE (d : Dt) : Dt := if d.isN = true then .str "" else d
def orA (d : Dt) : Dt := if d.tru = true then d else .str "a"
def wrongL (a b o : Dt) : List Dt := [.lst [a, b], .tup [a], .tup [a, b, .int 0], .tup [orE o, b], .tup [a, orA o], .tup [.int 5, .int 4]]
def moreL : List Dt := [.non, .str "..", .int 5, .tup [], .tup [.int T60, .int (0 - T60)]]
def thingD (a b : Dt) (m : Int) : Dt := (wrongL a b (oddD m) ++ moreL).getD (m / 7 % 11).toNat .non
theorem odd_mem (m : Int) (h : 0 ≤ m) : oddD m ∈ oddL := getD_all (p := fun d => d ∈ oddL) (fun d hd => hd) (by show _ < 7; omega)
theorem odd_num {d : Dt} (h : d ∈ oddL) : isNum d = false := by
  simp only [oddL, List.mem_cons, List.not_mem_nil, or_false] at h
  rcases h with rfl | rfl | rfl | rfl | rfl | rfl | rfl <;> rfl
theorem odd_ok {d : Dt} (h : d ∈ oddL) : d.truOk := by
  simp only [oddL, List.mem_cons, List.not_mem_nil, or_false] at h
  rcases h with rfl | rfl | rfl | rfl | rfl | rfl | rfl <;> first | trivial | (show _ ≤ sizeLine; decide +kernel)
theorem odd_orE {d : Dt} (h : d ∈ oddL) : isEnd (orE d) = false := by
  simp only [oddL, List.mem_cons, List.not_mem_nil, or_false] at h
  rcases h with rfl | rfl | rfl | rfl | rfl | rfl | rfl <;> rfl
theorem odd_orA {d : Dt} (h : d ∈ oddL) : isEnd (orA d) = false := by
  simp only [oddL, List.mem_cons, List.not_mem_nil, or_false] at h
  rcases h with rfl | rfl | rfl | rfl | rfl | rfl | rfl <;> first | rfl | decide +kernel
theorem t60_flip : decide (T60 ≤ 0 - T60) = false := by decide +kernel
theorem thing_bad {a b : Dt} {m : Int} (h : 0 ≤ m) : isStr (thingD a b m) = false := by
  have ho := odd_mem m h
  refine getD_all (p := fun d => isStr d = false) (fun d hd => ?_) (by show _ < 11; omega)
  simp only [wrongL, moreL, List.cons_append, List.nil_append, List.mem_cons, List.not_mem_nil, or_false] at hd
  rcases hd with rfl | rfl | rfl | rfl | rfl | rfl | rfl | rfl | rfl | rfl | rfl <;> try rfl
  · show (isEnd (orE (oddD m)) && _ && _) = false
    rw [odd_orE ho]
    rfl
  · show (_ && isEnd (orA (oddD m)) && _) = false
    rw [odd_orA ho]
    simp
def gRefused : List Dt → Dt → Prop := fun xs y => ∃ s i m, xs = [s, .int i, .int m] ∧ isStr s = true ∧ 0 ≤ m ∧ y = .bl true
def wS : Dt := .lst [.str (wordN 1)]
def wN : Dt := .lst [.str (wordN 0)]
def wD : Dt := .lst [.str "done"]
def toldD : Dt := .lst ([wS] ++ [wS] ++ [wS] ++ [wS] ++ [wN] ++ [wD])
def dueD : Dt := .lst ((List.replicate (4 : Int).toNat [.lst [.str "stretch"]]).flatten ++ [.lst [.str "number"], .lst [.str "done"]])
theorem told_eqs : Eqs toldD := ⟨rfl, by decide +kernel⟩
theorem due_eqs : Eqs dueD := ⟨rfl, by decide +kernel⟩
theorem told_due : toldD.eqv dueD = true := by decide +kernel
abbrev lamQ : Str := (("_law_refused" : Str) ++ ".<locals>.") ++ "<lambda>"
section
variable {P : Program} {w : World} {K : PySem.W.Frag} {mg : Str → Option Value} {base : Heap} {CE PT : Addr} {cls : Nat → Addr}
theorem pd_word {X : Cx} {T : List (Addr × Str)} {k i : Nat} {e : Expr} {δ : List Sl} {ω ω1 : Om} {p pos : Pos} (C : Cal X.prog X.w X.K X.mg X.base CX0 T k "_law_word" 1 (gWord cls)) (hr : Room k X.A) (hi : i < 5) (ha : PD X T e δ ω (keptR (some (cls i))) ω1) (hg : Gl X "_law_word" := by rfl)
    (he : starEach (e :: []) X.env = (false, eval e X.env) :: starEach [] X.env := by rfl) : PD X T (.Call (.Name "_law_word" p) [e] [] pos) δ ω (.d (.lst [.str (wordN i)])) ω1 := by
  obtain ⟨f, fd, ps, Gf, hm, hk, hb⟩ := C.ex
  exact pd_call Gf hr hm hk hb tk0 (pl1 ha he) rfl (.inr ⟨i, hi, rfl, rfl, rfl⟩) hg (by decide) he rfl
theorem pd_wordD {X : Cx} {T : List (Addr × Str)} {k : Nat} {e : Expr} {δ : List Sl} {ω ω1 : Om} {p pos : Pos} (C : Cal X.prog X.w X.K X.mg X.base CX0 T k "_law_word" 1 (gWord cls)) (hr : Room k X.A) (ha : PD X T e δ ω (keptR none) ω1) (hg : Gl X "_law_word" := by rfl)
    (he : starEach (e :: []) X.env = (false, eval e X.env) :: starEach [] X.env := by rfl) : PD X T (.Call (.Name "_law_word" p) [e] [] pos) δ ω (.d (.lst [.str "done"])) ω1 := by
  obtain ⟨f, fd, ps, Gf, hm, hk, hb⟩ := C.ex
  exact pd_call Gf hr hm hk hb tk0 (pl1 ha he) rfl (.inl ⟨rfl, rfl, rfl⟩) hg (by decide) he rfl
set_option maxHeartbeats 1000000 in
theorem ok_l_refused {f c : Addr} {fd : FuncData} (B : Bt mg) (E : Errs K mg CE cls) (D : KeptDef K mg "_law_kept" CE) (TB : TabB base mg c PT) (Ch : Cal P w K mg base (L2.CX P w) [(PT, lamQ)] 5 "has_number" 2 (rF (gHas (cls 1) (cls 0)))) (Ci : Cal P w K mg base CX0 [(PT, lamQ)] 3 "is_stretch" 1 (pureF (g1 isStr)))
    (Cz : Cal P w K mg base (L2.CX P w) [(PT, lamQ)] 5 "size_of" 1 (rF (gSize (cls 1)))) (Cs : Cal P w K mg base (L2.CX P w) [(PT, lamQ)] 5 "shared" 2 (rF (gShr (cls 1)))) (Cw : Cal P w K mg base CX0 [(PT, lamQ)] 1 "_law_word" 1 (gWord cls)) (F : FunC K "_law_refused" "_law_refused" sl_refused f fd c) :
    FnOk P w K mg base CX0 8 f fd ["_law_one", "_law_number_here", "_law_more"] (toSp K [(PT, lamQ)] 3 (pureR gRefused)) := by
  refine fn_okL F scl_refused fun A outer s H as ω Q RX hr hl h => ?_
  obtain ⟨xs, y, rfl, ⟨s1, i, m, rfl, hs, hm, rfl⟩, q⟩ := h
  have nd := scl_refused.nd
  obtain ⟨a, b, rfl, ha, hb, _⟩ := isStr_tup hs
  have ho := odd_mem m hm
  have hbad : isStr (thingD a b m) = false := thing_bad hm
  have O : LamOk (cxOf CX0 P w K mg base ["_law_one", "_law_number_here", "_law_more", "_law_odd", "_law_wrong", "_law_thing", "_law_told"] "_law_refused" (defScope sl_refused) f (.ref c) A outer s H E0).nox [(PT, lamQ)] :=
    lamOk TB rfl rfl
  have x1 : ∀ C, some (cls 1) = some C → PySem.W.exmOne K (.ref C) (.ref CE) = some true := fun C h => by cases h; exact E.ex 1 (by decide)
  have x0 : ∀ C, some (cls 0) = some C → PySem.W.exmOne K (.ref C) (.ref CE) = some true := fun C h => by cases h; exact E.ex 0 (by decide)
  have eo : oddD m = oddL.getD (m % 7).toNat .non := rfl
  refine ss_cons (sv 3 (r := .d (oddD m)) (pd_ixL (ds := oddL) (pd_lst (ds := [_, _, _, _, _, _, _]) (dl pd_bl (dl pd_non (dl pd_str (dl (pd_lst (ds := [_]) (dl pd_int dl_nil) szl) (dl (pd_tup (ds := [_]) (dl pd_int dl_nil) szl) (dl pd_emp (dl pd_bl dl_nil))))))) szl) (pd_mod (vr 2) pd_int (by decide)) (at_dts (by omega) (by show _ < (7 : Int); omega))) ?_)
  have gb : ∀ u, gHas (cls 1) (cls 0) [thingD a b m, u] = some (.er (cls 1)) := fun u => gHas_bad hbad
  have gz : gSize (cls 1) [thingD a b m] = some (.er (cls 1)) := gSize_bad hbad
  have gs1 : gShr (cls 1) [thingD a b m, .tup [a, b]] = some (.er (cls 1)) := by
    show some (if isStr (thingD a b m) = true then _ else _) = _
    rw [hbad]
    rfl
  have gs2 : gShr (cls 1) [.tup [a, b], thingD a b m] = some (.er (cls 1)) := by
    show some (if isStr (.tup [a, b]) = true then (if isStr (thingD a b m) = true then _ else _) else _) = _
    rw [hs, hbad]
    rfl
  have gi : g1 isStr [thingD a b m] = some (.bl false) := by
    show some (Dt.bl (isStr (thingD a b m))) = _
    rw [hbad]
  have et : thingD a b m = (wrongL a b (oddD m) ++ moreL).getD (m / 7 % 11).toNat .non := rfl
  have gn : gHas (cls 1) (cls 0) [.tup [a, b], oddD m] = some (.er (cls 0)) := by
    show some (if isStr (.tup [a, b]) = true then (if isNum (oddD m) = true then _ else _) else _) = _
    rw [hs, odd_num ho]
    rfl
  have gg : gHas (cls 1) (cls 0) [.tup [a, b], .int i] = some (.ok (.bl (lies a b (.int i)))) := by
    show some (if isStr (.tup [a, b]) = true then _ else _) = _
    rw [hs]
    rfl
  generalize hodd : oddD m = od at *
  refine ss_cons (sv 4 (r := .d (.lst (wrongL a b od))) (pd_lst (ds := wrongL a b od) (dl (ω1 := ω) ?_ (dl (ω1 := ω) ?_ (dl (ω1 := ω) ?_ (dl (ω1 := ω) ?_ (dl (ω1 := ω) ?_ (dl (ω1 := ω) ?_ dl_nil)))))) szl) ?_)
  · exact pd_listT B.list (vr 0)
  · exact pd_cutT (ds := [a, b]) (i := none) (j := some 1) (vr 0) pp_none (pp_some pd_int) (by show ¬ (HT.sIx 2 0 none = 0 ∧ HT.sIx 2 2 (some 1) = 2); decide)
  · exact pd_catT (xs := [a, b]) (ys := [.int 0]) (vr 0) (pd_tup (ds := [_]) (dl pd_int dl_nil) szl) (by simp) szl
  · refine pd_tup (ds := [orE od, b]) (dl (ω1 := ω) (pd_if (ω1 := ω) (ct (m_notN (x := .d od) (vr 3) (by nofun))) (fun h => ?_) (fun h => ?_)) (dl (pd_ixT (vr 0) pd_int rfl) dl_nil)) szl
    · have h : od.isN = false := by simpa [Sl.isN] using h
      have e : orE od = od := if_neg (by rw [h]; decide)
      rw [e]
      exact vr 3
    · have h : od.isN = true := by simpa [Sl.isN] using h
      have e : orE od = .str "" := if_pos h
      rw [e]
      exact pd_str
  · refine pd_tup (ds := [a, orA od]) (dl (pd_ixT (vr 0) pd_int rfl) (dl (ω1 := ω) (pd_orT (ω1 := ω) (d := od) (vr 3) (odd_ok ho) (fun h => ?_) (fun h => ?_)) dl_nil)) szl
    · have e : orA od = .str "a" := if_neg (by rw [h]; decide)
      rw [e]
      exact pd_one pd_str
    · have e : orA od = od := if_pos h
      rw [e]
  · exact pd_tup (ds := [_, _]) (dl pd_int (dl pd_int dl_nil)) szl
  refine ss_cons (sv 5 (r := .d (thingD a b m)) (by
    rw [et]
    exact pd_ixL (ds := wrongL a b od ++ moreL) (pd_cat (vr 4) (pd_lst (ds := [_, _, _, _, _]) (dl pd_non (dl pd_str (dl pd_int (dl (pd_tup (ds := []) dl_nil szl) (dl (pd_tup (ds := [_, _]) (dl (pd_pow pd_int pd_int cpow3) (dl (pd_sub pd_int (pd_pow pd_int pd_int cpow3)) dl_nil)) szl) dl_nil))))) szl) szl) (pd_mod (pd_div (vr 2) pd_int (divS (by decide) (by decide))) pd_int (by decide)) (at_dts (by omega) (by show _ < (11 : Int); omega))) ?_)
  have L := @lamS_by
  have wr : Room 1 (A.deeper (envOfC "_law_refused" (defScope sl_refused) s.heap.objs.size f (.ref c))) := hr.mono (by decide)
  refine ss_cons (s_new 6 (dl (pd_word Cw wr (i := 1) (by decide) (pd_kept D O hr (lamS_by (sc := defScope sl_refused) (by decide +kernel)) x1 fun A outer s H E f c' hr2 => cex Ch hr2 (tkX (takes_of rfl rfl rfl rfl)) (dl (vr 5) (dl (vr 3) dl_nil)) (gb _) ⟨rfl, rfl⟩)) dl_nil) szl fun p hp => ?_)
  refine ss_cons (s_app (vr 6) (pd_word Cw wr (i := 1) (by decide) (pd_kept D O hr (lamS_by (sc := defScope sl_refused) (by decide +kernel)) x1 fun A outer s H E f c' hr2 => cex Cz hr2 (tkX (takes_of rfl rfl rfl rfl)) (dl (vr 5) dl_nil) gz ⟨rfl, rfl⟩)) Om.set_same Om.set_same (by decide) ?_)
  rw [Om.set_set]
  refine ss_cons (s_app (vr 6) (pd_word Cw wr (i := 1) (by decide) (pd_kept D O hr (lamS_by (sc := defScope sl_refused) (by decide +kernel)) x1 fun A outer s H E f c' hr2 => cex Cs hr2 (tkX (takes_of rfl rfl rfl rfl)) (dl (vr 5) (dl (vr 0) dl_nil)) gs1 ⟨rfl, rfl⟩)) Om.set_same Om.set_same (by decide) ?_)
  rw [Om.set_set]
  refine ss_cons (s_app (vr 6) (pd_word Cw wr (i := 1) (by decide) (pd_kept D O hr (lamS_by (sc := defScope sl_refused) (by decide +kernel)) x1 fun A outer s H E f c' hr2 => cex Cs hr2 (tkX (takes_of rfl rfl rfl rfl)) (dl (vr 0) (dl (vr 5) dl_nil)) gs2 ⟨rfl, rfl⟩)) Om.set_same Om.set_same (by decide) ?_)
  rw [Om.set_set]
  refine ss_cons (s_app (vr 6) (pd_word Cw wr (i := 0) (by decide) (pd_kept D O hr (lamS_by (sc := defScope sl_refused) (by decide +kernel)) x0 fun A outer s H E f c' hr2 => cex Ch hr2 (tkX (takes_of rfl rfl rfl rfl)) (dl (vr 0) (dl (vr 3) dl_nil)) gn ⟨rfl, rfl⟩)) Om.set_same Om.set_same (by decide) ?_)
  rw [Om.set_set]
  refine ss_cons (s_app (vr 6) (pd_wordD Cw wr (pd_kept D O hr (lamS_by (sc := defScope sl_refused) (by decide +kernel)) (fun C h => by cases h) fun A outer s H E f c' hr2 => cex Ch hr2 (tkX (takes_of rfl rfl rfl rfl)) (dl (vr 0) (dl (vr 1) dl_nil)) gg ⟨rfl, rfl⟩)) Om.set_same Om.set_same (by decide) ?_)
  rw [Om.set_set]
  refine ss_frz 6 rfl Om.set_same ?_
  rw [Om.del_set hp]
  refine ss_one (s_ret (pd_and (cv (m_isBl (cd Ci (hr.mono (by decide)) tk0 (dl (vr 5) dl_nil) gi) pd_bl)) fun _ => (pd_one (cv (m_eq (x := toldD) (y := dueD) hr.units (vr 6) (pd_cat (pd_rep (pd_lst (ds := [_]) (dl (pd_lst (ds := [_]) (dl pd_str dl_nil) szl) dl_nil) szl) pd_int (by decide) (by decide) (by decide)) (pd_lst (ds := [_, _]) (dl (pd_lst (ds := [_]) (dl pd_str dl_nil) szl) (dl (pd_lst (ds := [_]) (dl pd_str dl_nil) szl) dl_nil)) szl) szl) told_eqs due_eqs)))) ?_)
  rw [told_due]
  exact q
end
end K01
namespace K01
open PySem PySem.Spec PyProof.Rows L2 Fl
abbrev slaw : Stmt := top 27
abbrev nLaw : List Str := ["_law_script", "_law_k", "_law_cell", "_law_one", "_law_other", "_law_number_here", "_law_spots", "_law_end", "_law_spot"]
theorem sclaw : FnScope nLaw ["_law_script"] (defScope slaw) := ⟨rfl, rfl, rfl, by decide +kernel, rfl, by decide +kernel, by decide +kernel⟩
theorem enum_inv : ∀ (n : Nat) (ds : List Dt) (i : Nat) (d : Dt), (enumD n ds)[i]? = some d → ∃ x, ds[i]? = some x ∧ d = .tup [.int ((n + i : Nat) : Int), x]
  | _, [], _, _, h => by simp [enumD] at h
  | n, a :: ds, 0, d, h => ⟨a, rfl, (Option.some.inj h).symm⟩
  | n, a :: ds, i + 1, d, h => by
    obtain ⟨x, h1, h2⟩ := enum_inv (n + 1) ds i d h
    exact ⟨x, h1, by rw [h2, Nat.add_right_comm, Nat.add_assoc]⟩
theorem cut_ints (ns : List Int) (lo hi : Option Int) : ∃ ms : List Int, Fl.cutD (ns.map .int) lo hi = ms.map .int ∧ ms.length ≤ ns.length := by
  refine ⟨(ns.drop (HT.sIx ns.length 0 lo)).take (HT.sIx ns.length ns.length hi - HT.sIx ns.length 0 lo), ?_, ?_⟩
  · unfold Fl.cutD
    rw [List.length_map, List.map_take, List.map_drop]
  · rw [List.length_take, List.length_drop]
    omega
theorem get_ints {ns : List Int} {i : Nat} {d : Dt} (h : (ns.map Dt.int)[i]? = some d) : ∃ c, d = .int c ∧ i < ns.length := by
  rw [List.getElem?_map] at h
  cases e : ns[i]? with
  | none =>
    rw [e] at h
    cases h
  | some c =>
    rw [e] at h
    exact ⟨c, (Option.some.inj h).symm, (List.getElem?_eq_some_iff.mp e).1⟩
section
variable {P : Program} {w : World} {K : PySem.W.Frag} {mg : Str → Option Value} {base : Heap} {T : List (Addr × Str)}
set_option maxHeartbeats 1000000 in
theorem ok_law {f : Addr} {fd : FuncData} (B : Bt mg) (C1 : Cal P w K mg base CX0 T 1 "_law_mixed" 2 (pureR gMixed)) (C2 : Cal P w K mg base CX0 T 2 "_law_number" 2 (pureR gNumber)) (C3 : Cal P w K mg base CX0 T 3 "_law_stretch" 2 (pureR gStretch))
    (Cg : Cal P w K mg base CX0 T 6 "_law_good" 3 (pureR gGood)) (Cr : Cal P w K mg base CX0 T 8 "_law_refused" 3 (pureR gRefused)) (F : Fun K "law" "law" slaw f fd) : FnOk P w K mg base CX0 9 f fd ["_law_script"] (toSp K T 1 (lawF 63)) := by
  refine fn_ok F sclaw fun cdv A outer s H as ω Q RX hr hl h => ?_
  obtain ⟨ns, rfl, hn, q⟩ := h
  have nd := sclaw.nd
  obtain ⟨ms, em, hm⟩ := cut_ints ns none (some 60)
  have hms : (3 :: ms).length ≤ 64 := by
    show ms.length + 1 ≤ 64
    omega
  have ed : [Dt.int 3] ++ Fl.cutD (ns.map .int) none (some 60) = (3 :: ms).map .int := by
    rw [em]
    rfl
  have cutp : (Fl.cutD (ns.map Dt.int) none (some 60)).length ≤ 63 := by
    rw [em, List.length_map]
    omega
  refine ss_cons (s_for (ds := enumD 0 ((3 :: ms).map .int)) (as := as2 1 2) (ω1 := ω) .never rfl (it_enum B.enumerate (by rw [← ed]; exact pd_cat (pd_lst (ds := [_]) (dl pd_int dl_nil) szl) (pd_cutR (vr 0) pp_none (pp_some pd_int)) (by show 1 + _ ≤ sizeLine; exact Nat.le_trans (Nat.add_le_add_left cutp 1) (Nat.le_of_ble_eq_true rfl))))
    (pg_tup rfl (pgs_cons (pg_name (i := 1) nd rfl (Or.inl rfl)) (pgs_cons (pg_name (i := 2) nd rfl (Or.inl rfl)) pgs_nil))) ga2 (fun _ δ ω' => ω' = ω ∧ ∃ x1 x2 x3 x4 x5 x6 x7 x8, δ = [.ro (ns.map .int), x1, x2, x3, x4, x5, x6, x7, x8]) ⟨rfl, _, _, _, _, _, _, _, _, rfl⟩ (fun i d δ2 ω2 hd hI => ?_) (fun δ2 ω2 hI => ?_))
  · obtain ⟨rfl, x1, x2, x3, x4, x5, x6, x7, x8, rfl⟩ := hI
    obtain ⟨x, hx, rfl⟩ := enum_inv _ _ _ _ hd
    obtain ⟨c, rfl, hi⟩ := get_ints hx
    rw [Nat.zero_add]
    refine ⟨_, rfl, ?_⟩
    have k0 : (0 : Int) ≤ (i : Int) := by omega
    have k1 : (i : Int) < 64 := by omega
    have s1 := strD_is c (i : Int)
    have s2 := strD_is c ((i : Int) + 9)
    refine ss_cons (s_par 3 4 (cr C3 (hr.mono (by decide)) tk0 (dl (vr 2) (dl (vr 1) dl_nil)) ⟨c, _, rfl, k0, by omega, rfl⟩) (cr C3 (hr.mono (by decide)) tk0 (dl (vr 2) (dl (pd_add (vr 1) pd_int) dl_nil)) ⟨c, (i : Int) + 9, rfl, by omega, by omega, rfl⟩) ?_)
    refine ss_cons (sv 5 (cr C2 (hr.mono (by decide)) tk0 (dl (vr 2) (dl (pd_add (vr 1) pd_int) dl_nil)) ⟨c, (i : Int) + 20, rfl, by omega, by omega, rfl⟩) ?_)
    generalize strD c (i : Int) = S1 at s1 ⊢
    generalize strD c ((i : Int) + 9) = S2 at s2 ⊢
    generalize numN c ((i : Int) + 20) = N at *
    refine ss_cons (sv 6 (pd_lst (ds := [_]) (dl (vr 5) dl_nil) szl) ?_)
    obtain ⟨a, b, rfl, ha, hb, hab⟩ := isStr_tup s1
    refine ss_cons (s_for (ds := [a, b]) (as := as1 7) (ω1 := ω2) .never rfl (it_tup (vr 3)) (pg_name (i := 7) nd rfl (Or.inl rfl)) ga1 (fun j δ ω' => ω' = ω2 ∧ ∃ (l : List Int) (x7 : Sl), l.length ≤ 1 + 3 * j ∧ δ = [.ro (ns.map .int), .d (.int i), .d (.int c), .d (.tup [a, b]), .d S2, .d (.int N), .d (.lst (l.map .int)), x7, x8]) ⟨rfl, [N], x7, Nat.le_refl _, rfl⟩ (fun j d δ3 ω3 hd hI => ?_) (fun δ3 ω3 hI => ?_))
    · obtain ⟨rfl, l, x7, hl7, rfl⟩ := hI
      refine ⟨_, rfl, ?_⟩
      have hj : j < 2 := (List.getElem?_eq_some_iff.mp hd).1
      have hde : isEnd d = true := by
        rcases mem2 hd with rfl | rfl
        · exact ha
        · exact hb
      rcases isEnd_cases hde with rfl | ⟨z, rfl⟩
      · exact ss_one (s_if (ct (m_notN (vr 7) (by nofun))) (fun h => by cases h) (fun h => ss_nil ⟨rfl, l, _, by omega, rfl⟩))
      · refine ss_one (s_if (ct (m_notN (vr 7) (by nofun))) (fun h => ?_) (fun h => by cases h))
        refine ss_one (sv 6 (pd_cat (vr 6) (pd_lst (ds := [_, _, _]) (dl (pd_sub (vr 7) pd_int) (dl (vr 7) (dl (pd_add (vr 7) pd_int) dl_nil))) szl) (by show (l.map Dt.int).length + 3 ≤ sizeLine; rw [List.length_map]; exact Nat.le_trans (show l.length + 3 ≤ 100 by omega) (Nat.le_of_ble_eq_true rfl))) ?_)
        refine ⟨rfl, l ++ [z - 1, z, z + 1], .d (.int z), ?_, ?_⟩
        · rw [List.length_append]
          show l.length + 3 ≤ 1 + 3 * (j + 1)
          omega
        · rw [List.map_append]
          rfl
    · obtain ⟨rfl, l, x7, hl7, rfl⟩ := hI
      refine ss_cons (s_for (ds := l.map .int) (as := as1 8) (ω1 := ω3) .never rfl (it_lst (vr 6)) (pg_name (i := 8) nd rfl (Or.inl rfl)) ga1 (fun j δ ω' => ω' = ω3 ∧ ∃ x8 : Sl, δ = [.ro (ns.map .int), .d (.int i), .d (.int c), .d (.tup [a, b]), .d S2, .d (.int N), .d (.lst (l.map .int)), x7, x8]) ⟨rfl, x8, rfl⟩ (fun j d δ4 ω4 hd hI => ?_) (fun δ4 ω4 hI => ?_))
      · obtain ⟨rfl, x8, rfl⟩ := hI
        obtain ⟨z, rfl, _⟩ := get_ints hd
        refine ⟨_, rfl, ?_⟩
        exact ss_one (s_if (pb_not (pb_val (cr Cg (hr.mono (by decide)) tk0 (dl (vr 3) (dl (vr 4) (dl (vr 8) dl_nil))) ⟨_, _, z, rfl, s1, s2, rfl⟩))) (fun h => by cases h) (fun h => ss_nil ⟨rfl, _, rfl⟩))
      · obtain ⟨rfl, x8, rfl⟩ := hI
        exact ss_one (s_if (pb_not (pb_val (cr Cr (hr.mono (by decide)) tk0 (dl (vr 3) (dl (vr 5) (dl (cr C1 (hr.mono (by decide)) tk0 (dl (vr 2) (dl (pd_add (vr 1) pd_int) dl_nil)) ⟨c, (i : Int) + 30, rfl, by omega, by omega, rfl⟩) dl_nil))) ⟨_, N, _, rfl, s1, mixed_lo _ _, rfl⟩))) (fun h => by cases h) (fun h => ss_nil ⟨rfl, _, _, _, _, _, _, _, _, rfl⟩))
  · obtain ⟨rfl, x1, x2, x3, x4, x5, x6, x7, x8, rfl⟩ := hI
    exact ss_one (s_ret pd_bl (by exact q))
end
end K01
namespace K01
open PySem PySem.Spec PyProof.Rows L2 Fl
open LamX (TabB)
theorem df_of {K : PySem.W.Frag} {x : Str} {st : Stmt} {f : Addr} {oc kV doc pm cd ct : Value} {od an : Option Addr} {sl : Array (Option Value)} (n : PySem.W.nsIn K mainGlobals x = some (some (.ref f))) (l : K.lookup f = some ⟨oc, od, .func (PySem.W.fnOf x x (defArgs st) (defBody st) (defScope st) .none kV doc pm an cd ct), sl⟩) (c : PySem.W.codeIn K cd x = true) (k : PySem.W.keepIn K (.ref f) = true) : DF K x st f :=
  ⟨n, ⟨_, _, _, _, _, _, _, _, _, l, c⟩, k⟩
theorem dfc_of {K : PySem.W.Frag} {x : Str} {st : Stmt} {f c : Addr} {oc kV doc pm ct : Value} {od an : Option Addr} {sl : Array (Option Value)} (n : PySem.W.nsIn K mainGlobals x = some (some (.ref f))) (l : K.lookup f = some ⟨oc, od, .func (PySem.W.fnOf x x (defArgs st) (defBody st) (defScope st) .none kV doc pm an (.ref c) ct), sl⟩) (d : PySem.W.codeIn K (.ref c) x = true) (k : PySem.W.keepIn K (.ref f) = true) : DFc K x st f c :=
  ⟨n, ⟨_, _, _, _, _, _, _, _, l, d⟩, k⟩
theorem kept_mk {K : PySem.W.Frag} {mg : Str → Option Value} {h : Heap} {g CE : Addr} (X : K.In h) (G : h.Ns mainGlobals mg) (D : DF K "_law_kept" sl_kept g) (hK : PySem.W.nsIn K mainGlobals "KeepError" = some (some (.ref CE))) : KeptDef K mg "_law_kept" CE := by
  obtain ⟨oc, od, kV, doc, pm, an, cd, ct, sl, lk, hcd⟩ := D.ex
  exact ⟨g, "_law_deed", "_law_e", "_law_kept_here", "KeepError", ["_law_deed", "_law_kept_here", "_law_e"], 2, 1, defArgs sl_kept, defBody sl_kept, defScope sl_kept, kV, doc, pm, cd, ct, oc, an, od, sl, _, _, _, _, _, _, _, _, _, _, _, _, _, _, _,
    PySem.W.mg_of X G D.n, D.k, lk, hcd, .all (fun us hl => match us, hl with | [_], _ => rfl), ⟨rfl, rfl, rfl, by decide +kernel, rfl, by decide +kernel, by decide +kernel⟩, rfl, .inl rfl, rfl,
    by decide, rfl, rfl, rfl, rfl, by decide, by decide, rfl, PySem.W.mg_of X G hK, by decide, by decide, by decide, by decide, by decide, by decide, by decide⟩
theorem errs_mk {K : PySem.W.Frag} {mg : Str → Option Value} {h : Heap} {CE c0 c1 c2 c3 c4 : Addr} (X : K.In h) (G : h.Ns mainGlobals mg) (hK : PySem.W.nsIn K mainGlobals "KeepError" = some (some (.ref CE))) (hV : PySem.W.nsIn K mainGlobals "ValueError" = some none)
    (e0 : EF K "BadNumber" c0 CE) (e1 : EF K "BadStretch" c1 CE) (e2 : EF K "BadKeeper" c2 CE) (e3 : EF K "BadText" c3 CE) (e4 : EF K "NoSuch" c4 CE) (k0 : KF K c0 c0 c1 c2 c3 c4 0) (k1 : KF K c1 c0 c1 c2 c3 c4 1) (k2 : KF K c2 c0 c1 c2 c3 c4 2) (k3 : KF K c3 c0 c1 c2 c3 c4 3) (k4 : KF K c4 c0 c1 c2 c3 c4 4) :
    Errs K mg CE (cls5 c0 c1 c2 c3 c4) where
  n0 := PySem.W.mg_of X G e0.n
  n1 := PySem.W.mg_of X G e1.n
  n2 := PySem.W.mg_of X G e2.n
  n3 := PySem.W.mg_of X G e3.n
  n4 := PySem.W.mg_of X G e4.n
  ke := PySem.W.mg_of X G hK
  ve := PySem.W.mg_none_of X G hV
  x := fun i hi => match i, hi with | 0, _ => e0.x | 1, _ => e1.x | 2, _ => e2.x | 3, _ => e3.x | 4, _ => e4.x
  ex := fun i hi => match i, hi with | 0, _ => e0.em | 1, _ => e1.em | 2, _ => e2.em | 3, _ => e3.em | 4, _ => e4.em
  kit := fun i j hi hj => match i, hi with | 0, _ => k0.all j hj | 1, _ => k1.all j hj | 2, _ => k2.all j hj | 3, _ => k3.all j hj | 4, _ => k4.all j hj
  kv := fun i hi => match i, hi with | 0, _ => e0.kv | 1, _ => e1.kv | 2, _ => e2.kv | 3, _ => e3.kv | 4, _ => e4.kv

theorem all_mk {l : PySem.W.OpenLaw} {w : World} {K : PySem.W.Frag} {h : Heap} {mg : Str → Option Value} {fa PT c CE c0 c1 c2 c3 c4 fk fr fl f0 f1 f2 f3 f4 f5 f6 f7 f8 f9 f10 f11 f12 f13 f14 : Addr} (X : K.In h) (G : h.Ns mainGlobals mg) (hfa : mg "law" = some (.ref fa))
    (d0 : DF K "is_number" sis_number f0)
    (d1 : DF K "check_number" scheck_number f1)
    (d2 : DF K "_is_end" sis_end f2)
    (d3 : DF K "is_stretch" sis_stretch f3)
    (d4 : DF K "check_stretch" scheck_stretch f4)
    (d5 : DF K "has_number" shas_number f5)
    (d6 : DF K "size_of" ssize_of f6)
    (d7 : DF K "shared" sshared f7)
    (d8 : DF K "_law_mixed" sl_mixed f8)
    (d9 : DF K "_law_number" sl_number f9)
    (d10 : DF K "_law_stretch" sl_stretch f10)
    (d11 : DF K "_law_lies" sl_lies f11)
    (d12 : DF K "_law_word" sl_word f12)
    (d13 : DF K "_law_shared" sl_shared f13)
    (d14 : DF K "_law_good" sl_good f14)
    (dk : DF K "_law_kept" sl_kept fk) (dr : DFc K "_law_refused" sl_refused fr c) (dw : DF K "law" slaw fl)
    (hK : PySem.W.nsIn K mainGlobals "KeepError" = some (some (.ref CE))) (hV : PySem.W.nsIn K mainGlobals "ValueError" = some none)
    (e0 : EF K "BadNumber" c0 CE) (e1 : EF K "BadStretch" c1 CE) (e2 : EF K "BadKeeper" c2 CE) (e3 : EF K "BadText" c3 CE) (e4 : EF K "NoSuch" c4 CE)
    (r0 : RF K c0) (r1 : RF K c1) (k0 : KF K c0 c0 c1 c2 c3 c4 0) (k1 : KF K c1 c0 c1 c2 c3 c4 1) (k2 : KF K c2 c0 c1 c2 c3 c4 2) (k3 : KF K c3 c0 c1 c2 c3 c4 3) (k4 : KF K c4 c0 c1 c2 c3 c4 4)
    (B : BF K) (hc : PySem.W.codeHdIn K c PT = true) (nP : K.lookup PT = none) (hP : h.get? PT = some { cls := .none, data := .fields #[] }) :
    LamX.LawAtS l w K CX0 9 63 "_law_script" mg fa h := by
  obtain ⟨oc, od, kV, doc, pm, an, cd, ct, sl, lk, hcd⟩ := dw.ex
  have e := hfa.symm.trans (PySem.W.mg_of X G dw.n)
  cases e
  refine ⟨PySem.W.fnOf "law" "law" (defArgs slaw) (defBody slaw) (defScope slaw) .none kV doc pm an cd ct, [(c, PT)], toSp K [(PT, lamQ)] 1 (lawF 63), fun p hp => ?_, fun p hp => ?_, fun p hp => ?_, fun s u => .of_eq rfl, fun H a ns hl _ ht hS => law_sp (cs := [(c, PT)]) (fun p hp => ⟨_, List.mem_singleton.mpr rfl, ?_⟩) hl ht hS, fun base KB NB TB => ?_⟩
  · rw [List.mem_singleton.mp hp]
    exact hP
  · rw [List.mem_singleton.mp hp]
    exact nP
  · rw [List.mem_singleton.mp hp]
    exact PySem.W.codeHd_of_K X hc
  · rw [List.mem_singleton.mp hp]
  have TB1 : TabB base mg c PT := TB (c, PT) (List.mem_singleton.mpr rfl)
  have B' : Bt mg := B.bt KB NB
  have E := errs_mk KB NB hK hV e0 e1 e2 e3 e4 k0 k1 k2 k3 k4
  have E0 := e0.raise r0 KB NB
  have E1 := e1.raise r1 KB NB
  have D := kept_mk KB NB dk hK
  let P := l.prog
  let T : List (Addr × Str) := [(PT, lamQ)]
  generalize hcls : cls5 c0 c1 c2 c3 c4 = cls at E
  have z0 : c0 = cls 0 := by rw [← hcls]; rfl
  have z1 : c1 = cls 1 := by rw [← hcls]; rfl
  rw [z0] at E0
  rw [z1] at E1
  have Cis_number : Cal P w K mg base CX0 T 1 "is_number" 1 (pureF (g1 isNum)) := d0.cal KB NB (fun fd F => ok_is_number B' F) (fun _ _ _ _ _ _ us hl => match us, hl with | [_], _ => rfl)
  have Ccheck_number : Cal P w K mg base (L2.CX P w) T 2 "check_number" 1 (rF (gChk isNum (cls 0))) := d1.cal KB NB (fun fd F => ok_check_number E0 Cis_number F) (fun _ _ _ _ _ _ us hl => match us, hl with | [_], _ => rfl)
  have C_is_end : Cal P w K mg base CX0 T 2 "_is_end" 1 (pureF (g1 isEnd)) := d2.cal KB NB (fun fd F => ok_is_end Cis_number F) (fun _ _ _ _ _ _ us hl => match us, hl with | [_], _ => rfl)
  have Cis_stretch : Cal P w K mg base CX0 T 3 "is_stretch" 1 (pureF (g1 isStr)) := d3.cal KB NB (fun fd F => ok_is_stretch B' C_is_end F) (fun _ _ _ _ _ _ us hl => match us, hl with | [_], _ => rfl)
  have Ccheck_stretch : Cal P w K mg base (L2.CX P w) T 4 "check_stretch" 1 (rF (gChk isStr (cls 1))) := d4.cal KB NB (fun fd F => ok_check_stretch E1 Cis_stretch F) (fun _ _ _ _ _ _ us hl => match us, hl with | [_], _ => rfl)
  have Chas_number : Cal P w K mg base (L2.CX P w) T 5 "has_number" 2 (rF (gHas (cls 1) (cls 0))) := d5.cal KB NB (fun fd F => ok_has_number Ccheck_number Ccheck_stretch F) (fun _ _ _ _ _ _ us hl => match us, hl with | [_, _], _ => rfl)
  have Csize_of : Cal P w K mg base (L2.CX P w) T 5 "size_of" 1 (rF (gSize (cls 1))) := d6.cal KB NB (fun fd F => ok_size_of Ccheck_stretch F) (fun _ _ _ _ _ _ us hl => match us, hl with | [_], _ => rfl)
  have Cshared : Cal P w K mg base (L2.CX P w) T 5 "shared" 2 (rF (gShr (cls 1))) := d7.cal KB NB (fun fd F => ok_shared B' Cis_stretch Ccheck_stretch F) (fun _ _ _ _ _ _ us hl => match us, hl with | [_, _], _ => rfl)
  have C_law_mixed : Cal P w K mg base CX0 T 1 "_law_mixed" 2 (pureR gMixed) := d8.cal KB NB (fun fd F => ok_l_mixed F) (fun _ _ _ _ _ _ us hl => match us, hl with | [_, _], _ => rfl)
  have C_law_number : Cal P w K mg base CX0 T 2 "_law_number" 2 (pureR gNumber) := d9.cal KB NB (fun fd F => ok_l_number C_law_mixed F) (fun _ _ _ _ _ _ us hl => match us, hl with | [_, _], _ => rfl)
  have C_law_stretch : Cal P w K mg base CX0 T 3 "_law_stretch" 2 (pureR gStretch) := d10.cal KB NB (fun fd F => ok_l_stretch B' C_law_mixed C_law_number F) (fun _ _ _ _ _ _ us hl => match us, hl with | [_, _], _ => rfl)
  have C_law_lies : Cal P w K mg base CX0 T 1 "_law_lies" 2 (pureR gLies) := d11.cal KB NB (fun fd F => ok_l_lies F) (fun _ _ _ _ _ _ us hl => match us, hl with | [_, _], _ => rfl)
  have C_law_word : Cal P w K mg base CX0 T 1 "_law_word" 1 (gWord cls) := d12.cal KB NB (fun fd F => ok_l_word B' E F) (fun _ _ _ _ _ _ us hl => match us, hl with | [_], _ => rfl)
  have C_law_shared : Cal P w K mg base CX0 T 1 "_law_shared" 2 (pureR gLShr) := d13.cal KB NB (fun fd F => ok_l_shared B' F) (fun _ _ _ _ _ _ us hl => match us, hl with | [_, _], _ => rfl)
  have C_law_good : Cal P w K mg base CX0 T 6 "_law_good" 3 (pureR gGood) := d14.cal KB NB (fun fd F => ok_l_good B' Chas_number Cis_stretch Csize_of Cshared C_law_lies C_law_shared F) (fun _ _ _ _ _ _ us hl => match us, hl with | [_, _, _], _ => rfl)
  have C_law_refused : Cal P w K mg base CX0 T 8 "_law_refused" 3 (pureR gRefused) := dr.cal KB NB (fun fd F => ok_l_refused B' E D TB1 Chas_number Cis_stretch Csize_of Cshared C_law_word F) (fun _ _ _ _ _ _ us hl => match us, hl with | [_, _, _], _ => rfl)
  exact ok_law B' C_law_mixed C_law_number C_law_stretch C_law_good C_law_refused (fun_mk lk hcd dw.k)
end K01
open PySem PySem.W PyProof.Rows
set_option maxRecDepth 100000 in
set_option maxHeartbeats 0 in
theorem PySem.Challenge.cw_stretchkeeper_k01_stretches_holds : PySem.Challenge.rw_stretchkeeper_k01_stretches.Holds := by
  w_on; o_law; k_head; (case hw => w_witness2)
  k_fill
  refine LamX.walk_ofTs (l := PySem.Challenge.rw_stretchkeeper_k01_stretches) (n := 63) (k := 9) (x := "_law_script") (CX := fun _ => L2.CX0) rfl (by decide) rfl ⟨rfl, by decide, by decide⟩ (fun w h Y => PySem.W.km_in_of Y) ?F (fun _ _ _ _ _ z => z)
  case F =>
    intro w mg fa h Y KX G hmg
    refine' K01.all_mk (PT := 202) KX G hmg ?d0 ?d1 ?d2 ?d3 ?d4 ?d5 ?d6 ?d7 ?d8 ?d9 ?d10 ?d11 ?d12 ?d13 ?d14 ?dk ?dr ?dw ?hK ?hV ?e0 ?e1 ?e2 ?e3 ?e4 ?r0 ?r1 ?k0 ?k1 ?k2 ?k3 ?k4 ?xB ?xc ?xP ?xH
    (case d0 => refine' K01.df_of ?d0n ?d0l ?d0c ?d0k; (case d0n => k_is); (case d0l => k_is); (case d0c => k_is); (case d0k => k_is))
    (case d1 => refine' K01.df_of ?d1n ?d1l ?d1c ?d1k; (case d1n => k_is); (case d1l => k_is); (case d1c => k_is); (case d1k => k_is))
    (case d2 => refine' K01.df_of ?d2n ?d2l ?d2c ?d2k; (case d2n => k_is); (case d2l => k_is); (case d2c => k_is); (case d2k => k_is))
    (case d3 => refine' K01.df_of ?d3n ?d3l ?d3c ?d3k; (case d3n => k_is); (case d3l => k_is); (case d3c => k_is); (case d3k => k_is))
    (case d4 => refine' K01.df_of ?d4n ?d4l ?d4c ?d4k; (case d4n => k_is); (case d4l => k_is); (case d4c => k_is); (case d4k => k_is))
    (case d5 => refine' K01.df_of ?d5n ?d5l ?d5c ?d5k; (case d5n => k_is); (case d5l => k_is); (case d5c => k_is); (case d5k => k_is))
    (case d6 => refine' K01.df_of ?d6n ?d6l ?d6c ?d6k; (case d6n => k_is); (case d6l => k_is); (case d6c => k_is); (case d6k => k_is))
    (case d7 => refine' K01.df_of ?d7n ?d7l ?d7c ?d7k; (case d7n => k_is); (case d7l => k_is); (case d7c => k_is); (case d7k => k_is))
    (case d8 => refine' K01.df_of ?d8n ?d8l ?d8c ?d8k; (case d8n => k_is); (case d8l => k_is); (case d8c => k_is); (case d8k => k_is))
    (case d9 => refine' K01.df_of ?d9n ?d9l ?d9c ?d9k; (case d9n => k_is); (case d9l => k_is); (case d9c => k_is); (case d9k => k_is))
    (case d10 => refine' K01.df_of ?d10n ?d10l ?d10c ?d10k; (case d10n => k_is); (case d10l => k_is); (case d10c => k_is); (case d10k => k_is))
    (case d11 => refine' K01.df_of ?d11n ?d11l ?d11c ?d11k; (case d11n => k_is); (case d11l => k_is); (case d11c => k_is); (case d11k => k_is))
    (case d12 => refine' K01.df_of ?d12n ?d12l ?d12c ?d12k; (case d12n => k_is); (case d12l => k_is); (case d12c => k_is); (case d12k => k_is))
    (case d13 => refine' K01.df_of ?d13n ?d13l ?d13c ?d13k; (case d13n => k_is); (case d13l => k_is); (case d13c => k_is); (case d13k => k_is))
    (case d14 => refine' K01.df_of ?d14n ?d14l ?d14c ?d14k; (case d14n => k_is); (case d14l => k_is); (case d14c => k_is); (case d14k => k_is))
    (case dk => refine' K01.df_of ?dkn ?dkl ?dkc ?dkk; (case dkn => k_is); (case dkl => k_is); (case dkc => k_is); (case dkk => k_is))
    (case dw => refine' K01.df_of ?dwn ?dwl ?dwc ?dwk; (case dwn => k_is); (case dwl => k_is); (case dwc => k_is); (case dwk => k_is))
    (case dr => refine' K01.dfc_of ?drn ?drl ?drc ?drk; (case drn => k_is); (case drl => k_is); (case drc => k_is); (case drk => k_is))
    (case hK => k_is)
    (case hV => k_is)
    (case e0 => refine' ⟨?e0n, ?e0g, ?e0k, ?e0s, ?e0d, ?e0a, ?e0z, ?e0x, ?e0m, ?e0e, ?e0v⟩; (case e0n => k_is); (case e0g => k_is); (case e0k => k_is); (case e0s => k_is); (case e0d => k_is); (case e0a => k_is); (case e0z => k_is); (case e0x => k_is); (case e0m => k_is); (case e0e => kernel_rfl); (case e0v => kernel_rfl))
    (case e1 => refine' ⟨?e1n, ?e1g, ?e1k, ?e1s, ?e1d, ?e1a, ?e1z, ?e1x, ?e1m, ?e1e, ?e1v⟩; (case e1n => k_is); (case e1g => k_is); (case e1k => k_is); (case e1s => k_is); (case e1d => k_is); (case e1a => k_is); (case e1z => k_is); (case e1x => k_is); (case e1m => k_is); (case e1e => kernel_rfl); (case e1v => kernel_rfl))
    (case e2 => refine' ⟨?e2n, ?e2g, ?e2k, ?e2s, ?e2d, ?e2a, ?e2z, ?e2x, ?e2m, ?e2e, ?e2v⟩; (case e2n => k_is); (case e2g => k_is); (case e2k => k_is); (case e2s => k_is); (case e2d => k_is); (case e2a => k_is); (case e2z => k_is); (case e2x => k_is); (case e2m => k_is); (case e2e => kernel_rfl); (case e2v => kernel_rfl))
    (case e3 => refine' ⟨?e3n, ?e3g, ?e3k, ?e3s, ?e3d, ?e3a, ?e3z, ?e3x, ?e3m, ?e3e, ?e3v⟩; (case e3n => k_is); (case e3g => k_is); (case e3k => k_is); (case e3s => k_is); (case e3d => k_is); (case e3a => k_is); (case e3z => k_is); (case e3x => k_is); (case e3m => k_is); (case e3e => kernel_rfl); (case e3v => kernel_rfl))
    (case e4 => refine' ⟨?e4n, ?e4g, ?e4k, ?e4s, ?e4d, ?e4a, ?e4z, ?e4x, ?e4m, ?e4e, ?e4v⟩; (case e4n => k_is); (case e4g => k_is); (case e4k => k_is); (case e4s => k_is); (case e4d => k_is); (case e4a => k_is); (case e4z => k_is); (case e4x => k_is); (case e4m => k_is); (case e4e => kernel_rfl); (case e4v => kernel_rfl))
    (case r0 => refine' ⟨?r0n, ?r0g, ?r0k⟩; (case r0n => kernel_rfl); (case r0g => k_is); (case r0k => k_is))
    (case r1 => refine' ⟨?r1n, ?r1g, ?r1k⟩; (case r1n => kernel_rfl); (case r1g => k_is); (case r1k => k_is))
    (case k0 => exact ⟨by kernel_rfl, by kernel_rfl, by kernel_rfl, by kernel_rfl, by kernel_rfl⟩)
    (case k1 => exact ⟨by kernel_rfl, by kernel_rfl, by kernel_rfl, by kernel_rfl, by kernel_rfl⟩)
    (case k2 => exact ⟨by kernel_rfl, by kernel_rfl, by kernel_rfl, by kernel_rfl, by kernel_rfl⟩)
    (case k3 => exact ⟨by kernel_rfl, by kernel_rfl, by kernel_rfl, by kernel_rfl, by kernel_rfl⟩)
    (case k4 => exact ⟨by kernel_rfl, by kernel_rfl, by kernel_rfl, by kernel_rfl, by kernel_rfl⟩)
    (case xB => exact ⟨by k_is, by k_is, by k_is, by k_is, by k_is, by k_is, by k_is, by k_is, by k_is, by k_is, by k_is, by k_is, by k_is, by k_is⟩)
    (case xc => kernel_rfl)
    (case xP => kernel_rfl)
    (case xH => exact PySem.W.km_tabs_of Y 202 (List.mem_singleton.mpr rfl))
