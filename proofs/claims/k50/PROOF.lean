import PyProof.Rows.All
import Wide.All
import OpenK.AllK
import Wide.FinOn
import HandS.ForMost
import HandS.ForExc
import HandS.IsInst
import HandS.ExcIs
import HandS.Wide
import HandS.TupAny
import HandS.Deep
import HandS.WideBits
import HandS.Sort
import PyProof.ReprRoads
import HandS.ExcValue
import HandS.Rev
import HandS.Style
import HandS.CallLocal
import PySem.Challenge.RW_roadsay_k50_sayings_turned_about
set_option Elab.async false
set_option linter.all false
set_option maxRecDepth 100000
set_option maxHeartbeats 2000000
namespace Q
open PySem PySem.Spec PyProof.Rows L2

/-! ### data -/
inductive D where
  | non | bl (b : Bool) | int (i : Int) | str (x : Str) | tup (l : List D) | lst (l : List D)
  | dk (ks : List Key) (l : List D) | dt (ks : List (List Key)) (l : List D) | exc (c : Addr) | scr (ns : List Int) | fnc (f : Addr)
/-- an error that is kept as a value -/
def EO (c a : Addr) : HO := .ext fun h => ∃ (oe : Obj) (vs : Array Value), h.get? a = some oe ∧ Zc (.ref c) none oe ∧ oe.data = .fields vs

mutual
inductive Rp (K : PySem.W.Frag) (H : Hp) : D → V → Prop
  | non : Rp K H .non .non
  | bl (b : Bool) : Rp K H (.bl b) (.bl b)
  | int (i : Int) : Rp K H (.int i) (.int i)
  | str (x : Str) : Rp K H (.str x) (.str x)
  | lst {a : Addr} {xs : List V} {ds : List D} : H a = some (.lst xs) → RpL K H ds xs → Rp K H (.lst ds) (.ref a)
  | scr {a : Addr} {ns : List Int} : SqL K H a (ns.map V.int) → Rp K H (.scr ns) (.ref a)
  | tup {a : Addr} {xs : List V} {ds : List D} : SqT K H a xs → RpL K H ds xs → Rp K H (.tup ds) (.ref a)
  | dk {a : Addr} {ks : List Key} {xs : List V} {ds : List D} : Rd H a (.dK (ks.zip xs)) → ks.length = ds.length → RpL K H ds xs → Rp K H (.dk ks ds) (.ref a)
  | dt {a : Addr} {ks : List (List Key)} {xs : List V} {ds : List D} : Rd H a (.dT (ks.zip xs)) → ks.length = ds.length → RpL K H ds xs → Rp K H (.dt ks ds) (.ref a)
  | exc {a c : Addr} : Rd H a (EO c a) → Rp K H (.exc c) (.ref a)
  | fnc (a : Addr) : Rp K H (.fnc a) (.ref a)
inductive RpL (K : PySem.W.Frag) (H : Hp) : List D → List V → Prop
  | nil : RpL K H [] []
  | cons {v : V} {vs : List V} {d : D} {ds : List D} : Rp K H d v → RpL K H ds vs → RpL K H (d :: ds) (v :: vs)
end

/-- a dict, which a loop may lock -/
def IsD : HO → Prop
  | .dK _ => True
  | .dT _ => True
  | _ => False
/-- what H tells is told by H', for reading -/
def Sub (H H' : Hp) : Prop := ∀ a o, H a = some o → H' a = some o ∨ (IsD o ∧ ∃ q, H' a = some (.frz q o))
def Ex (H H' : Hp) : Prop := ∀ a o, H a = some o → H' a = some o
theorem Ex.refl (H : Hp) : Ex H H := fun _ _ h => h
theorem Ex.trans {H H1 H2 : Hp} (a : Ex H H1) (b : Ex H1 H2) : Ex H H2 := fun x o h => b x o (a x o h)
theorem Ex.new {H : Hp} {p : Addr} {o : HO} (h : H p = none) : Ex H (upd H p o) := fun a u e => by
  rw [upd_ne (ne_of_none e h)]
  exact e
theorem Ex.sub {H H' : Hp} (x : Ex H H') : Sub H H' := fun a o h => Or.inl (x a o h)
def Plain (_ : Hp) : Prop := True
theorem sub_rd {G H : Hp} {a : Addr} {u : HO} (p : Plain G) (e : Sub G H) (h : Rd G a u) : Rd H a u := by
  rcases h with h | ⟨o, h⟩
  · rcases e a _ h with q | ⟨_, o, q⟩
    · exact Or.inl q
    · exact Or.inr ⟨o, q⟩
  · rcases e a _ h with q | ⟨z, _⟩
    · exact Or.inr ⟨o, q⟩
    · exact z.elim
theorem sub_ex {G H : Hp} {a : Addr} {xs : List V} (e : Sub G H) (h : G a = some (.lst xs)) : H a = some (.lst xs) := by
  rcases e a _ h with q | ⟨z, _⟩
  · exact q
  · exact z.elim
section
variable {K : PySem.W.Frag} {H H' : Hp}
theorem sub_l {a : Addr} {xs : List V} (p : Plain H) (e : Sub H H') (h : SqL K H a xs) : SqL K H' a xs := by
  rcases h with h | h
  · exact Or.inl (sub_rd p e h)
  · exact Or.inr h
theorem sub_t {a : Addr} {xs : List V} (p : Plain H) (e : Sub H H') (h : SqT K H a xs) : SqT K H' a xs := by
  rcases h with h | h
  · exact Or.inl (sub_rd p e h)
  · exact Or.inr h
mutual
theorem Rp.sub (p : Plain H) (e : Sub H H') : ∀ (d : D) (v : V), Rp K H d v → Rp K H' d v
  | _, _, .non => .non
  | _, _, .bl b => .bl b
  | _, _, .int i => .int i
  | _, _, .str x => .str x
  | _, _, .lst h q => .lst (sub_ex e h) (RpL.sub p e _ _ q)
  | _, _, .scr h => .scr (sub_l p e h)
  | _, _, .tup h q => .tup (sub_t p e h) (RpL.sub p e _ _ q)
  | _, _, .dk h l q => .dk (sub_rd p e h) l (RpL.sub p e _ _ q)
  | _, _, .dt h l q => .dt (sub_rd p e h) l (RpL.sub p e _ _ q)
  | _, _, .exc h => .exc (sub_rd p e h)
  | _, _, .fnc a => .fnc a
theorem RpL.sub (p : Plain H) (e : Sub H H') : ∀ (ds : List D) (vs : List V), RpL K H ds vs → RpL K H' ds vs
  | _, _, .nil => .nil
  | _, _, .cons h q => .cons (Rp.sub p e _ _ h) (RpL.sub p e _ _ q)
end
theorem ex_rd {a : Addr} {u : HO} (e : Ex H H') (h : Rd H a u) : Rd H' a u := by
  rcases h with h | ⟨o, h⟩
  · exact Or.inl (e a _ h)
  · exact Or.inr ⟨o, e a _ h⟩
theorem ex_l {a : Addr} {xs : List V} (e : Ex H H') (h : SqL K H a xs) : SqL K H' a xs := by
  rcases h with h | h
  · exact Or.inl (ex_rd e h)
  · exact Or.inr h
theorem ex_t {a : Addr} {xs : List V} (e : Ex H H') (h : SqT K H a xs) : SqT K H' a xs := by
  rcases h with h | h
  · exact Or.inl (ex_rd e h)
  · exact Or.inr h
mutual
theorem Rp.mono' (e : Ex H H') : ∀ (d : D) (v : V), Rp K H d v → Rp K H' d v
  | _, _, .non => .non
  | _, _, .bl b => .bl b
  | _, _, .int i => .int i
  | _, _, .str x => .str x
  | _, _, .lst h q => .lst (e _ _ h) (RpL.mono' e _ _ q)
  | _, _, .scr h => .scr (ex_l e h)
  | _, _, .tup h q => .tup (ex_t e h) (RpL.mono' e _ _ q)
  | _, _, .dk h l q => .dk (ex_rd e h) l (RpL.mono' e _ _ q)
  | _, _, .dt h l q => .dt (ex_rd e h) l (RpL.mono' e _ _ q)
  | _, _, .exc h => .exc (ex_rd e h)
  | _, _, .fnc a => .fnc a
theorem RpL.mono' (e : Ex H H') : ∀ (ds : List D) (vs : List V), RpL K H ds vs → RpL K H' ds vs
  | _, _, .nil => .nil
  | _, _, .cons h q => .cons (Rp.mono' e _ _ h) (RpL.mono' e _ _ q)
end
theorem Rp.mono {d : D} {v : V} (h : Rp K H d v) (e : Ex H H') : Rp K H' d v := Rp.mono' e d v h
theorem RpL.mono {d : List D} {v : List V} (h : RpL K H d v) (e : Ex H H') : RpL K H' d v := RpL.mono' e d v h
theorem RpL.length {ds : List D} : ∀ {vs : List V}, RpL K H ds vs → ds.length = vs.length := by
  induction ds with
  | nil => intro vs h; cases h; rfl
  | cons d ds ih => intro vs h; cases h with | cons _ q => exact congrArg Nat.succ (ih q)
theorem RpL.append {ds es : List D} : ∀ {vs us : List V}, RpL K H ds vs → RpL K H es us → RpL K H (ds ++ es) (vs ++ us) := by
  induction ds with
  | nil => intro vs us h q; cases h; exact q
  | cons d ds ih => intro vs us h q; cases h with | cons h1 h2 => exact .cons h1 (ih h2 q)
theorem RpL.get {ds : List D} : ∀ {vs : List V} {i : Nat} {d : D}, RpL K H ds vs → ds[i]? = some d → ∃ v, vs[i]? = some v ∧ Rp K H d v := by
  induction ds with
  | nil => intro vs i d h e; cases e
  | cons d ds ih =>
    intro vs i d' h e
    cases h with | cons h1 h2 =>
      cases i with
      | zero => cases e; exact ⟨_, rfl, h1⟩
      | succ i =>
        obtain ⟨v, z1, z2⟩ := ih (i := i) h2 (by simpa using e)
        exact ⟨v, by simpa using z1, z2⟩
theorem RpL.take {ds : List D} : ∀ {vs : List V} (n : Nat), RpL K H ds vs → RpL K H (ds.take n) (vs.take n) := by
  induction ds with
  | nil => intro vs n h; cases h; simp; exact .nil
  | cons d ds ih => intro vs n h; cases h with | cons h1 h2 => cases n with
    | zero => exact .nil
    | succ n => exact .cons h1 (ih n h2)
theorem RpL.drop {ds : List D} : ∀ {vs : List V} (n : Nat), RpL K H ds vs → RpL K H (ds.drop n) (vs.drop n) := by
  induction ds with
  | nil => intro vs n h; cases h; simp; exact .nil
  | cons d ds ih => intro vs n h; cases h with | cons h1 h2 => cases n with
    | zero => exact .cons h1 h2
    | succ n => exact ih n h2
theorem RpL.reverse {ds : List D} : ∀ {vs : List V}, RpL K H ds vs → RpL K H ds.reverse vs.reverse := by
  induction ds with
  | nil => intro vs h; cases h; exact .nil
  | cons d ds ih => intro vs h; cases h with | cons h1 h2 => rw [List.reverse_cons, List.reverse_cons]; exact (ih h2).append (.cons h1 .nil)
end

/-! ### what a slot holds: its own trees of lists, and shared data -/
inductive T where
  | un | fz (d : D) | ls (l : List T) | tp (l : List T) | dk (ks : List Key) (l : List D) | dt (ks : List (List Key)) (l : List D)
abbrev Fp := Addr → Prop
mutual
def T.data : T → Option D
  | .un => none
  | .fz d => some d
  | .ls l => (dataL l).map .lst
  | .tp l => (dataL l).map .tup
  | .dk ks l => some (.dk ks l)
  | .dt ks l => some (.dt ks l)
def dataL : List T → Option (List D)
  | [] => some []
  | t :: l => t.data.bind fun d => (dataL l).map (d :: ·)
end
mutual
inductive Rt (K : PySem.W.Frag) (G H : Hp) : T → Option V → Fp → Prop
  | un {x : Option V} {f : Fp} : Rt K G H .un x f
  | fz {d : D} {v : V} {f : Fp} : Rp K G d v → Rt K G H (.fz d) (some v) f
  | ls {a : Addr} {vs : List V} {l : List T} {f g : Fp} : f a → H a = some (.lst vs) → RtL K G H l (vs.map some) g → (∀ b, g b → f b ∧ b ≠ a) → Rt K G H (.ls l) (some (.ref a)) f
  | tp {a : Addr} {vs : List V} {l : List T} {f g : Fp} : f a → H a = some (.tup vs) → RtL K G H l (vs.map some) g → (∀ b, g b → f b ∧ b ≠ a) → Rt K G H (.tp l) (some (.ref a)) f
  | dk {a : Addr} {ks : List Key} {vs : List V} {l : List D} {f : Fp} : f a → H a = some (.dK (ks.zip vs)) → ks.length = l.length → RpL K G l vs → Rt K G H (.dk ks l) (some (.ref a)) f
  | dt {a : Addr} {ks : List (List Key)} {vs : List V} {l : List D} {f : Fp} : f a → H a = some (.dT (ks.zip vs)) → ks.length = l.length → RpL K G l vs → Rt K G H (.dt ks l) (some (.ref a)) f
inductive RtL (K : PySem.W.Frag) (G H : Hp) : List T → List (Option V) → Fp → Prop
  | nil {f : Fp} : RtL K G H [] [] f
  | cons {t : T} {x : Option V} {ts : List T} {xs : List (Option V)} {f g h : Fp} : Rt K G H t x g → RtL K G H ts xs h → (∀ b, g b → f b) → (∀ b, h b → f b) → (∀ b, g b → ¬ h b) → RtL K G H (t :: ts) (x :: xs) f
end
section
variable {K : PySem.W.Frag} {G G' H H' : Hp}
theorem Rt.weak {t : T} {x : Option V} {f f' : Fp} (h : Rt K G H t x f) (w : ∀ b, f b → f' b) : Rt K G H t x f' := by
  cases h with
  | un => exact .un
  | fz h => exact .fz h
  | ls h1 h2 h3 h4 => exact .ls (w _ h1) h2 h3 fun b hb => ⟨w b (h4 b hb).1, (h4 b hb).2⟩
  | tp h1 h2 h3 h4 => exact .tp (w _ h1) h2 h3 fun b hb => ⟨w b (h4 b hb).1, (h4 b hb).2⟩
  | dk h1 h2 h3 h4 => exact .dk (w _ h1) h2 h3 h4
  | dt h1 h2 h3 h4 => exact .dt (w _ h1) h2 h3 h4
theorem RtL.weak {t : List T} {x : List (Option V)} {f f' : Fp} (h : RtL K G H t x f) (w : ∀ b, f b → f' b) : RtL K G H t x f' := by
  cases h with
  | nil => exact .nil
  | cons h1 h2 h3 h4 h5 => exact .cons h1 h2 (fun b hb => w b (h3 b hb)) (fun b hb => w b (h4 b hb)) h5
mutual
theorem Rt.frame' (e : Ex G G') : ∀ (t : T) (x : Option V) (f : Fp), Rt K G H t x f → (∀ b, f b → H' b = H b) → Rt K G' H' t x f
  | _, _, _, .un, _ => .un
  | _, _, _, .fz h, _ => .fz (h.mono e)
  | _, _, _, .ls h1 h2 h3 h4, k => .ls h1 ((k _ h1).trans h2) (RtL.frame' e _ _ _ h3 fun b hb => k b (h4 b hb).1) h4
  | _, _, _, .tp h1 h2 h3 h4, k => .tp h1 ((k _ h1).trans h2) (RtL.frame' e _ _ _ h3 fun b hb => k b (h4 b hb).1) h4
  | _, _, _, .dk h1 h2 h3 h4, k => .dk h1 ((k _ h1).trans h2) h3 (h4.mono e)
  | _, _, _, .dt h1 h2 h3 h4, k => .dt h1 ((k _ h1).trans h2) h3 (h4.mono e)
theorem RtL.frame' (e : Ex G G') : ∀ (t : List T) (x : List (Option V)) (f : Fp), RtL K G H t x f → (∀ b, f b → H' b = H b) → RtL K G' H' t x f
  | _, _, _, .nil, _ => .nil
  | _, _, _, .cons h1 h2 h3 h4 h5, k => .cons (Rt.frame' e _ _ _ h1 fun b hb => k b (h3 b hb)) (RtL.frame' e _ _ _ h2 fun b hb => k b (h4 b hb)) h3 h4 h5
end
theorem Rt.frame {t : T} {x : Option V} {f : Fp} (h : Rt K G H t x f) (e : Ex G G') (k : ∀ b, f b → H' b = H b) : Rt K G' H' t x f := Rt.frame' e t x f h k
theorem RtL.frame {t : List T} {x : List (Option V)} {f : Fp} (h : RtL K G H t x f) (e : Ex G G') (k : ∀ b, f b → H' b = H b) : RtL K G' H' t x f := RtL.frame' e t x f h k
/-! its own things are shared from now on -/
mutual
theorem Rt.ice' (e : Ex G G') : ∀ (t : T) (x : Option V) (f : Fp), Rt K G H t x f → (∀ b o, f b → H b = some o → (∀ q u, o ≠ .frz q u) → G' b = some o) → ∀ d, t.data = some d → ∃ v, x = some v ∧ Rp K G' d v
  | _, _, _, .un, _, d, z => by unfold T.data at z; cases z
  | _, _, _, .fz h, _, d, z => by unfold T.data at z; cases z; exact ⟨_, rfl, h.mono e⟩
  | _, _, _, .ls h1 h2 h3 h4, k, d, z => by
    unfold T.data at z
    obtain ⟨ds, z1, z2⟩ := Option.map_eq_some_iff.mp z
    subst z2
    exact ⟨_, rfl, .lst (k _ _ h1 h2 (fun _ _ z => HO.noConfusion z)) (RtL.ice' e _ _ _ h3 (fun b o hb => k b o (h4 b hb).1) ds z1 _ rfl)⟩
  | _, _, _, .tp h1 h2 h3 h4, k, d, z => by
    unfold T.data at z
    obtain ⟨ds, z1, z2⟩ := Option.map_eq_some_iff.mp z
    subst z2
    exact ⟨_, rfl, .tup (Or.inl (Or.inl (k _ _ h1 h2 (fun _ _ z => HO.noConfusion z)))) (RtL.ice' e _ _ _ h3 (fun b o hb => k b o (h4 b hb).1) ds z1 _ rfl)⟩
  | _, _, _, .dk h1 h2 h3 h4, k, d, z => by unfold T.data at z; cases z; exact ⟨_, rfl, .dk (Or.inl (k _ _ h1 h2 (fun _ _ z => HO.noConfusion z))) h3 (h4.mono e)⟩
  | _, _, _, .dt h1 h2 h3 h4, k, d, z => by unfold T.data at z; cases z; exact ⟨_, rfl, .dt (Or.inl (k _ _ h1 h2 (fun _ _ z => HO.noConfusion z))) h3 (h4.mono e)⟩
theorem RtL.ice' (e : Ex G G') : ∀ (t : List T) (x : List (Option V)) (f : Fp), RtL K G H t x f → (∀ b o, f b → H b = some o → (∀ q u, o ≠ .frz q u) → G' b = some o) → ∀ ds, dataL t = some ds → ∀ vs : List V, x = vs.map some → RpL K G' ds vs
  | _, _, _, .nil, _, d, z, vs, ev => by
    unfold dataL at z
    cases z
    cases vs with
    | nil => exact .nil
    | cons v vs => cases ev
  | _, _, _, .cons h1 h2 h3 h4 h5, k, d, z, vs, ev => by
    unfold dataL at z
    obtain ⟨d1, z1, z2⟩ := Option.bind_eq_some_iff.mp z
    obtain ⟨ds, z3, z4⟩ := Option.map_eq_some_iff.mp z2
    subst z4
    cases vs with
    | nil => cases ev
    | cons v vs =>
      obtain ⟨e1, e2⟩ := List.cons.inj ev
      obtain ⟨v', e3, q⟩ := Rt.ice' e _ _ _ h1 (fun b o hb => k b o (h3 b hb)) d1 z1
      rw [e1] at e3
      cases e3
      exact .cons q (RtL.ice' e _ _ _ h2 (fun b o hb => k b o (h4 b hb)) ds z3 vs e2)
end
theorem RtL.length {t : List T} : ∀ {x : List (Option V)} {f : Fp}, RtL K G H t x f → t.length = x.length := by
  induction t with
  | nil => intro x f h; cases h; rfl
  | cons t ts ih => intro x f h; cases h with | cons _ h2 _ _ _ => exact congrArg Nat.succ (ih h2)
theorem RtL.app {t2 : List T} {y : List (Option V)} {g : Fp} (h2 : RtL K G H t2 y g) {t1 : List T} : ∀ {x : List (Option V)} {f : Fp}, RtL K G H t1 x f → (∀ b, f b → ¬ g b) → RtL K G H (t1 ++ t2) (x ++ y) (fun b => f b ∨ g b) := by
  induction t1 with
  | nil => intro x f h1 d; cases h1; exact h2.weak fun b hb => Or.inr hb
  | cons t ts ih =>
    intro x f h1 d
    cases h1 with | cons a1 a2 a3 a4 a5 =>
      exact .cons a1 (ih a2 fun b hb => d b (a4 b hb)) (fun b hb => Or.inl (a3 b hb)) (fun b hb => hb.elim (fun z => Or.inl (a4 b z)) Or.inr) (fun b hb z => z.elim (a5 b hb) (d b (a3 b hb)))
theorem RtL.split {t2 : List T} {y : List (Option V)} {t1 : List T} : ∀ {x : List (Option V)} {f : Fp}, RtL K G H (t1 ++ t2) (x ++ y) f → t1.length = x.length → ∃ g h : Fp, RtL K G H t1 x g ∧ RtL K G H t2 y h ∧ (∀ b, g b → f b) ∧ (∀ b, h b → f b) ∧ ∀ b, g b → ¬ h b := by
  induction t1 with
  | nil =>
    intro x f h l
    cases x with
    | nil => exact ⟨fun _ => False, f, .nil, h, fun b hb => hb.elim, fun b hb => hb, fun b hb => hb.elim⟩
    | cons _ _ => cases l
  | cons t ts ih =>
    intro x f h l
    cases x with
    | nil => cases l
    | cons x xs =>
      cases h with | @cons _ _ _ _ _ g1 h1 a1 a2 a3 a4 a5 =>
        obtain ⟨g, h, b1, b2, b3, b4, b5⟩ := ih a2 (Nat.succ.inj l)
        refine ⟨fun b => g1 b ∨ g b, h, .cons a1 b1 (fun b hb => Or.inl hb) (fun b hb => Or.inr hb) (fun b hb z => a5 b hb (b3 b z)), b2, fun b hb => hb.elim (a3 b) fun z => a4 b (b3 b z), fun b hb => a4 b (b4 b hb), fun b hb z => hb.elim (fun q => a5 b q (b4 b z)) fun q => b5 b q z⟩
/-- one place of a list, and another thing in it -/
theorem RtL.at {t : T} {ts : List T} : ∀ {x : List (Option V)} {f : Fp} {i : Nat}, RtL K G H ts x f → ts[i]? = some t → ∃ (y : Option V) (g h : Fp), x[i]? = some y ∧ Rt K G H t y g ∧ (∀ b, g b → f b) ∧ (∀ b, h b → f b) ∧ (∀ b, g b → ¬ h b) ∧
    ∀ (G' H' : Hp) (t' : T) (y' : Option V) (g' : Fp), Ex G G' → (∀ b, h b → H' b = H b) → Rt K G' H' t' y' g' → (∀ b, g' b → ¬ h b) → RtL K G' H' (ts.set i t') (x.set i y') (fun b => g' b ∨ h b) := by
  induction ts with
  | nil => intro x f i h e; cases e
  | cons t0 ts ih =>
    intro x f i h e
    cases h with | @cons _ x0 _ xs _ g0 h0 a1 a2 a3 a4 a5 =>
      cases i with
      | zero =>
        cases e
        refine ⟨x0, g0, h0, rfl, a1, a3, a4, a5, fun G' H' t' y' g' eg k r d => ?_⟩
        exact .cons r (a2.frame eg k) (fun b hb => Or.inl hb) (fun b hb => Or.inr hb) d
      | succ i =>
        obtain ⟨y, g, h, b1, b2, b3, b4, b5, b6⟩ := ih (i := i) a2 e
        refine ⟨y, g, fun b => g0 b ∨ h b, b1, b2, fun b hb => a4 b (b3 b hb), fun b hb => hb.elim (a3 b) fun z => a4 b (b4 b z), fun b hb z => z.elim (fun q => a5 b q (b3 b hb)) (b5 b hb), fun G' H' t' y' g' eg k r d => ?_⟩
        exact .cons (g := g0) (h := fun b => g' b ∨ h b) (a1.frame eg fun b hb => k b (Or.inl hb)) (b6 G' H' t' y' g' eg (fun b hb => k b (Or.inr hb)) r fun b hb z => d b hb (Or.inr z)) (fun b hb => Or.inr (Or.inl hb))
          (fun b hb => hb.elim Or.inl fun z => Or.inr (Or.inr z)) (fun b hb z => z.elim (fun q => d b q (Or.inl hb)) fun q => a5 b hb (b4 b q))
end

/-! ### the state of a frame -/
structure Fx where
  B : Hp
  G0 : Hp
  L : Fp
def Own (F : Fx) (G H : Hp) (f : Fp) : Prop := ∀ b, f b → G b = none ∧ H b ≠ none ∧ (F.B b = none ∨ F.L b)
structure SI (K : PySem.W.Frag) (F : Fx) (G H : Hp) (r : List T) (x : List (Option V)) : Prop where
  own : ∃ f : Fp, RtL K G H r x f ∧ Own F G H f
  keep : ∀ a o, F.B a = some o → ¬ F.L a → H a = some o
  inn : ∀ a, F.L a → H a ≠ none
  g0 : Ex F.G0 G
  gh : Sub G H
  pl : Plain G
  gn : ∀ a o, G a = some o → F.G0 a = some o ∨ F.B a = none ∨ F.L a
section
variable {K : PySem.W.Frag} {F : Fx} {G G' H H' : Hp} {r r' : List T} {x x' : List (Option V)}
theorem SI.len (I : SI K F G H r x) : r.length = x.length := by
  obtain ⟨f, h, _⟩ := I.own
  exact h.length
theorem SI.Bnone (I : SI K F G H r x) {p : Addr} (h : H p = none) : F.B p = none := by
  cases hb : F.B p with
  | none => rfl
  | some o =>
    by_cases c : F.L p
    · exact absurd h (I.inn p c)
    · rw [I.keep p o hb c] at h; cases h
theorem SI.Gnone (I : SI K F G H r x) {p : Addr} (h : H p = none) : G p = none := by
  cases hb : G p with
  | none => rfl
  | some o =>
    rcases I.gh p o hb with q | ⟨_, _, q⟩ <;> (rw [h] at q; cases q)
/-- a step -/
theorem SI.next (I : SI K F G H r x) (f : Fp) (hf : Own F G H f) (e1 : Ex G G') (e2 : Sub G' H') (e3 : Plain G') (kp : ∀ a o, H a = some o → ¬ f a → H' a = some o) (lv : ∀ a, H a ≠ none → H' a ≠ none)
    (gn : ∀ a o, G' a = some o → G a = some o ∨ f a ∨ H a = none) {f' : Fp} (hr : RtL K G' H' r' x' f') (hf' : ∀ b, f' b → G' b = none ∧ H' b ≠ none ∧ (f b ∨ H b = none)) : SI K F G' H' r' x' := by
  refine ⟨⟨f', hr, fun b hb => ⟨(hf' b hb).1, (hf' b hb).2.1, (hf' b hb).2.2.elim (fun z => (hf b z).2.2) fun z => Or.inl (I.Bnone z)⟩⟩, fun a o e c => ?_, fun a c => lv a (I.inn a c), I.g0.trans e1, e2, e3, fun a o e => ?_⟩
  · refine kp a o (I.keep a o e c) fun z => ?_
    rcases (hf a z).2.2 with q | q
    · rw [e] at q; cases q
    · exact c q
  · rcases gn a o e with q | q | q
    · exact I.gn a o q
    · exact Or.inr ((hf a q).2.2)
    · exact Or.inr (Or.inl (I.Bnone q))
/-- only the holdings are told otherwise -/
theorem SI.same (I : SI K F G H r x) {f : Fp} (hf : Own F G H f) {f' : Fp} (hr : RtL K G H r' x' f') (w : ∀ b, f' b → f b) : SI K F G H r' x' :=
  I.next f hf (Ex.refl G) I.gh I.pl (fun a o e _ => e) (fun a h => h) (fun a o e => Or.inl e) hr (fun b hb => ⟨(hf b (w b hb)).1, (hf b (w b hb)).2.1, Or.inl (w b hb)⟩)
/-- a new thing at p, shared at once -/
theorem Sub.both {G H : Hp} {p : Addr} {o : HO} (e : Sub G H) (h : H p = none) : Sub (upd G p o) (upd H p o) := fun a u ha => by
  by_cases c : a = p
  · subst c
    rw [upd_same] at ha
    cases ha
    exact Or.inl upd_same
  · rw [upd_ne c] at ha
    rw [upd_ne c]
    exact e a u ha
theorem Plain.new {G : Hp} {p : Addr} {o : HO} (h : Plain G) (ho : ∀ q u, o ≠ .frz q u) : Plain (upd G p o) := trivial
theorem SI.laid (I : SI K F G H r x) {p : Addr} {o : HO} (h : H p = none) (ho : ∀ q u, o ≠ .frz q u) : SI K F (upd G p o) (upd H p o) r x := by
  obtain ⟨f, hr, hf⟩ := I.own
  have hg := I.Gnone h
  have np : ∀ b, f b → b ≠ p := fun b hb z => by subst z; exact (hf b hb).2.1 h
  refine I.next f hf (Ex.new hg) (I.gh.both h) (I.pl.new ho) (fun a u e _ => by rw [upd_ne (ne_of_none e h)]; exact e) (fun a ha => ?_) (fun a u e => ?_) (hr.frame (Ex.new hg) fun b hb => upd_ne (np b hb))
    (fun b hb => ⟨by rw [upd_ne (np b hb)]; exact (hf b hb).1, by rw [upd_ne (np b hb)]; exact (hf b hb).2.1, Or.inl hb⟩)
  · rw [upd_ne (fun z => ha (by rw [z]; exact h))]; exact ha
  · by_cases c : a = p
    · subst c; exact Or.inr (Or.inr h)
    · rw [upd_ne c] at e; exact Or.inl e
end
end Q

set_option Elab.async false
set_option linter.all false
set_option maxRecDepth 100000
set_option maxHeartbeats 2000000
namespace Q
open PySem PySem.Spec PyProof.Rows L2
open Classical in
noncomputable def mix (G : Hp) (g : Fp) (H : Hp) : Hp := fun b => if g b ∧ (∀ q u, H b ≠ some (.frz q u)) then H b else G b
theorem mix_in {G H : Hp} {g : Fp} {b : Addr} {o : HO} (hg : g b) (h : H b = some o) (ho : ∀ q u, o ≠ .frz q u) : mix G g H b = some o := by
  unfold mix
  rw [if_pos ⟨hg, fun q u z => ho q u (by rw [h] at z; exact Option.some.inj z)⟩, h]
theorem mix_out {G H : Hp} {g : Fp} {b : Addr} (hg : ¬ g b) : mix G g H b = G b := by
  unfold mix
  rw [if_neg fun z => hg z.1]
theorem mix_cases {G H : Hp} {g : Fp} {b : Addr} {o : HO} (h : mix G g H b = some o) : (g b ∧ H b = some o ∧ ∀ q u, o ≠ .frz q u) ∨ G b = some o := by
  unfold mix at h
  split at h
  · rename_i c
    exact Or.inl ⟨c.1, h, fun q u z => c.2 q u (by rw [h, z])⟩
  · exact Or.inr h
theorem set_same {α : Type} : ∀ {l : List α} {i : Nat} {a : α}, l[i]? = some a → l.set i a = l
  | [], _, _, h => by cases h
  | x :: l, 0, a, h => by cases h; rfl
  | x :: l, i + 1, a, h => by
    rw [List.set_cons_succ, set_same (by simpa using h)]
section
variable {K : PySem.W.Frag} {F : Fx} {G G' H H' : Hp} {r r' : List T} {x x' : List (Option V)}
/-- the thing in a place is shared from now on -/
theorem SI.iceAt (I : SI K F G H r x) {i : Nat} {t : T} {d : D} (e : r[i]? = some t) (hd : t.data = some d) : ∃ G' v, x[i]? = some (some v) ∧ Ex G G' ∧ SI K F G' H (r.set i (.fz d)) x ∧ Rp K G' d v := by
  obtain ⟨f, hr, hf⟩ := I.own
  obtain ⟨y, g, h, b1, b2, b3, b4, b5, b6⟩ := hr.at e
  have eg : Ex G (mix G g H) := fun b o hb => by
    rw [mix_out fun z => by rw [(hf b (b3 b z)).1] at hb; cases hb]
    exact hb
  obtain ⟨v, rfl, q⟩ := Rt.ice' eg t y g b2 (fun b o hb => mix_in hb) d hd
  refine ⟨mix G g H, v, b1, eg, ?_, q⟩
  have hr' := b6 (mix G g H) H (.fz d) (some v) (fun _ => False) eg (fun _ _ => rfl) (.fz q) (fun b hb => hb.elim)
  rw [set_same b1] at hr'
  refine I.next f hf eg (fun b o hb => ?_) trivial (fun a o e _ => e) (fun a z => z) (fun a o e => ?_) hr' (fun b hb => ?_)
  · rcases mix_cases hb with ⟨_, q, _⟩ | q
    · exact Or.inl q
    · exact I.gh b o q
  · rcases mix_cases e with ⟨q, _, _⟩ | q
    · exact Or.inr (Or.inl (b3 a q))
    · exact Or.inl q
  · rcases hb with z | z
    · exact z.elim
    · have := hf b (b4 b z)
      exact ⟨by rw [mix_out fun w => b5 b w z]; exact this.1, this.2.1, Or.inl (b4 b z)⟩
theorem SI.drop {t : List T} {y : List (Option V)} (I : SI K F G H (r ++ t) (x ++ y)) (hl : r.length = x.length) : SI K F G H r x := by
  obtain ⟨f, hr, hf⟩ := I.own
  obtain ⟨g, h, h1, h2, h3, h4, h5⟩ := hr.split hl
  exact I.same hf h1 h3
/-- shared things more -/
theorem RtL.fzs {l : List D} : ∀ {vs : List V}, RpL K G l vs → RtL K G H (l.map .fz) (vs.map some) (fun _ => False) := by
  induction l with
  | nil => intro vs h; cases h; exact .nil
  | cons d l ih => intro vs h; cases h with | cons h1 h2 => exact .cons (g := fun _ => False) (h := fun _ => False) (.fz h1) (ih h2) (fun b hb => hb) (fun b hb => hb) (fun b hb => hb.elim)
theorem SI.fzs (I : SI K F G H r x) {l : List D} {vs : List V} (h : RpL K G l vs) : SI K F G H (r ++ l.map .fz) (x ++ vs.map some) := by
  obtain ⟨f, hr, hf⟩ := I.own
  exact I.same hf ((RtL.fzs h).app hr fun b _ z => z) fun b hb => hb.elim (fun z => z) fun z => z.elim
/-- a new list of the last ones -/
theorem SI.pack {ts : List T} {vs : List V} (I : SI K F G H (r ++ ts) (x ++ vs.map some)) (hl : r.length = x.length) {p : Addr} (h : H p = none) : SI K F G (upd H p (.lst vs)) (r ++ [.ls ts]) (x ++ [some (.ref p)]) := by
  obtain ⟨f, hr, hf⟩ := I.own
  obtain ⟨g, k, h1, h2, h3, h4, h5⟩ := hr.split hl
  have np : ∀ b, f b → b ≠ p := fun b hb z => by subst z; exact (hf b hb).2.1 h
  have s1 : RtL K G (upd H p (.lst vs)) r x g := h1.frame (Ex.refl G) fun b hb => upd_ne (np b (h3 b hb))
  have s2 : RtL K G (upd H p (.lst vs)) ts (vs.map some) k := h2.frame (Ex.refl G) fun b hb => upd_ne (np b (h4 b hb))
  have s3 : RtL K G (upd H p (.lst vs)) [.ls ts] [some (.ref p)] (fun b => b = p ∨ k b) := .cons (.ls (Or.inl rfl) upd_same s2 fun b hb => ⟨Or.inr hb, np b (h4 b hb)⟩) (h := fun _ => False) .nil (fun b hb => hb) (fun b hb => hb.elim) (fun b _ z => z)
  refine I.next f hf (Ex.refl G) (fun a o e => ?_) I.pl (fun a o e _ => by rw [upd_ne (ne_of_none e h)]; exact e) (fun a ha => ?_) (fun a o e => Or.inl e) (s3.app s1 fun b hb z => z.elim (np b (h3 b hb)) (h5 b hb)) (fun b hb => ?_)
  · have : a ≠ p := fun z => by subst z; rw [I.Gnone h] at e; cases e
    rw [upd_ne this]
    exact I.gh a o e
  · rw [upd_ne (fun z => ha (by rw [z]; exact h))]; exact ha
  · have fin : f b → G b = none ∧ upd H p (.lst vs) b ≠ none ∧ (f b ∨ H b = none) := fun hb => ⟨(hf b hb).1, by rw [upd_ne (np b hb)]; exact (hf b hb).2.1, Or.inl hb⟩
    rcases hb with z | z | z
    · exact fin (h3 b z)
    · subst z
      exact ⟨I.Gnone h, by rw [upd_same]; exact Option.some_ne_none _, Or.inr h⟩
    · exact fin (h4 b z)
theorem SI.packT {ts : List T} {vs : List V} (I : SI K F G H (r ++ ts) (x ++ vs.map some)) (hl : r.length = x.length) {p : Addr} (h : H p = none) : SI K F G (upd H p (.tup vs)) (r ++ [.tp ts]) (x ++ [some (.ref p)]) := by
  obtain ⟨f, hr, hf⟩ := I.own
  obtain ⟨g, k, h1, h2, h3, h4, h5⟩ := hr.split hl
  have np : ∀ b, f b → b ≠ p := fun b hb z => by subst z; exact (hf b hb).2.1 h
  have s1 : RtL K G (upd H p (.tup vs)) r x g := h1.frame (Ex.refl G) fun b hb => upd_ne (np b (h3 b hb))
  have s2 : RtL K G (upd H p (.tup vs)) ts (vs.map some) k := h2.frame (Ex.refl G) fun b hb => upd_ne (np b (h4 b hb))
  have s3 : RtL K G (upd H p (.tup vs)) [.tp ts] [some (.ref p)] (fun b => b = p ∨ k b) := .cons (.tp (Or.inl rfl) upd_same s2 fun b hb => ⟨Or.inr hb, np b (h4 b hb)⟩) (h := fun _ => False) .nil (fun b hb => hb) (fun b hb => hb.elim) (fun b _ z => z)
  refine I.next f hf (Ex.refl G) (fun a o e => ?_) I.pl (fun a o e _ => by rw [upd_ne (ne_of_none e h)]; exact e) (fun a ha => ?_) (fun a o e => Or.inl e) (s3.app s1 fun b hb z => z.elim (np b (h3 b hb)) (h5 b hb)) (fun b hb => ?_)
  · have : a ≠ p := fun z => by subst z; rw [I.Gnone h] at e; cases e
    rw [upd_ne this]
    exact I.gh a o e
  · rw [upd_ne (fun z => ha (by rw [z]; exact h))]; exact ha
  · have fin : f b → G b = none ∧ upd H p (.tup vs) b ≠ none ∧ (f b ∨ H b = none) := fun hb => ⟨(hf b hb).1, by rw [upd_ne (np b hb)]; exact (hf b hb).2.1, Or.inl hb⟩
    rcases hb with z | z | z
    · exact fin (h3 b z)
    · subst z
      exact ⟨I.Gnone h, by rw [upd_same]; exact Option.some_ne_none _, Or.inr h⟩
    · exact fin (h4 b z)
end

/-! ### what an expression is worth -/
abbrev Env := List T
inductive W where
  | sh (d : D) | nw (t : T) | pl (i : Nat)
def W.tm : W → List T
  | .nw t => [t]
  | _ => []
def W.vl (v : V) : W → List (Option V)
  | .nw _ => [some v]
  | _ => []
def WV (K : PySem.W.Frag) (G : Hp) (s : L2.St) : W → V → Prop
  | .sh d, v => Rp K G d v
  | .nw _, _ => True
  | .pl i, v => s[i]? = some (some v)
abbrev ED := Env → Option (W × Env)
abbrev FD := Env → Option (D × Env)
abbrev FDs := Env → Option (List D × Env)
abbrev MD := Env → Option (T × Env)
abbrev MDs := Env → Option (List T × Env)
abbrev BD := Env → Option (Bool × Env)
def DE (K : PySem.W.Frag) (te : TE) (f : ED) : Prop := ∀ F G H r s tm us w r', SI K F G H (r ++ tm) (s ++ us) → r.length = s.length → f r = some (w, r') → ∀ Q : VK, (∀ v G' H', Ex G G' → SI K F G' H' (r' ++ (tm ++ w.tm)) (s ++ (us ++ w.vl v)) → r'.length = s.length → WV K G' s w v → Q v H') → te s H Q
def DF (K : PySem.W.Frag) (te : TE) (f : FD) : Prop := ∀ F G H r s tm us d r', SI K F G H (r ++ tm) (s ++ us) → r.length = s.length → f r = some (d, r') → ∀ Q : VK, (∀ v G' H', Ex G G' → SI K F G' H' (r' ++ tm) (s ++ us) → r'.length = s.length → Rp K G' d v → Q v H') → te s H Q
def DFs (K : PySem.W.Frag) (ta : TA) (f : FDs) : Prop := ∀ F G H r s tm us d r', SI K F G H (r ++ tm) (s ++ us) → r.length = s.length → f r = some (d, r') → ∀ Q : List V → Hp → Prop, (∀ v G' H', Ex G G' → SI K F G' H' (r' ++ tm) (s ++ us) → r'.length = s.length → RpL K G' d v → Q v H') → ta s H Q
def DM (K : PySem.W.Frag) (te : TE) (f : MD) : Prop := ∀ F G H r s tm us t r', SI K F G H (r ++ tm) (s ++ us) → r.length = s.length → f r = some (t, r') → ∀ Q : VK, (∀ v G' H', Ex G G' → SI K F G' H' (r' ++ (tm ++ [t])) (s ++ (us ++ [some v])) → r'.length = s.length → Q v H') → te s H Q
def DMs (K : PySem.W.Frag) (ta : TA) (f : MDs) : Prop := ∀ F G H r s tm us ts r', SI K F G H (r ++ tm) (s ++ us) → r.length = s.length → f r = some (ts, r') → ∀ Q : List V → Hp → Prop, (∀ (vs : List V) G' H', Ex G G' → SI K F G' H' (r' ++ (tm ++ ts)) (s ++ (us ++ vs.map some)) → r'.length = s.length → ts.length = vs.length → Q vs H') → ta s H Q
def DT (K : PySem.W.Frag) (tt : TT) (f : BD) : Prop := ∀ F G H r s tm us b r', SI K F G H (r ++ tm) (s ++ us) → r.length = s.length → f r = some (b, r') → ∀ Q : Bool → Hp → Prop, (∀ G' H', Ex G G' → SI K F G' H' (r' ++ tm) (s ++ us) → r'.length = s.length → Q b H') → tt s H Q
def share (r : Env) : W → Option (D × Env)
  | .sh d => some (d, r)
  | .nw t => t.data.bind fun d => some (d, r)
  | .pl i => (r[i]?).bind fun t => t.data.bind fun d => some (d, r.set i (.fz d))
section
variable {K : PySem.W.Frag} {F : Fx} {G G' H H' : Hp} {r r' : Env} {s : L2.St} {tm : List T} {us : List (Option V)}
theorem share_ok {w : W} {v : V} {d : D} (I : SI K F G H (r ++ (tm ++ w.tm)) (s ++ (us ++ w.vl v))) (hl : r.length = s.length) (hw : WV K G s w v) (e : share r w = some (d, r')) : ∃ G', Ex G G' ∧ SI K F G' H (r' ++ tm) (s ++ us) ∧ r'.length = s.length ∧ Rp K G' d v := by
  cases w with
  | sh d' =>
    cases e
    simp only [W.tm, W.vl, List.append_nil] at I
    exact ⟨G, Ex.refl G, I, hl, hw⟩
  | nw t =>
    obtain ⟨d', e1, e2⟩ := Option.bind_eq_some_iff.mp e
    cases e2
    simp only [W.tm, W.vl, ← List.append_assoc] at I
    have hl2 : (r ++ tm).length = (s ++ us).length := by
      have := I.len
      simp at this ⊢
      omega
    obtain ⟨G', v', z1, z2, z3, z4⟩ := I.iceAt (i := (r ++ tm).length) (by simp) e1
    rw [hl2] at z1
    simp at z1
    subst z1
    rw [List.set_append_right _ _ (Nat.le_refl _)] at z3
    exact ⟨G', z2, z3.drop hl2, hl, z4⟩
  | pl i =>
    obtain ⟨t, e0, e⟩ := Option.bind_eq_some_iff.mp e
    obtain ⟨d', e1, e2⟩ := Option.bind_eq_some_iff.mp e
    cases e2
    simp only [W.tm, W.vl, List.append_nil] at I
    have hi : i < r.length := (List.getElem?_eq_some_iff.mp e0).1
    obtain ⟨G', v', z1, z2, z3, z4⟩ := I.iceAt (i := i) (by rw [List.getElem?_append_left hi]; exact e0) e1
    rw [List.getElem?_append_left (by omega), hw] at z1
    cases z1
    rw [List.set_append_left _ _ hi] at z3
    exact ⟨G', z2, z3, by rw [List.length_set]; exact hl, z4⟩
def dSh (f : ED) : FD := fun r => (f r).bind fun p => share p.2 p.1
theorem df_of {te : TE} {f : ED} (h : DE K te f) : DF K te (dSh f) := fun F G H r s tm us d r' I hl e Q q => by
  obtain ⟨⟨w, r1⟩, e1, e⟩ := Option.bind_eq_some_iff.mp e
  refine h F G H r s tm us w r1 I hl e1 _ fun v G1 H1 x1 I1 l1 hw => ?_
  obtain ⟨G2, x2, I2, l2, q2⟩ := share_ok I1 l1 hw e
  exact q v G2 H1 (x1.trans x2) I2 l2 q2
def dLift (f : FD) : ED := fun r => (f r).bind fun p => some (.sh p.1, p.2)
theorem de_of {te : TE} {f : FD} (h : DF K te f) : DE K te (dLift f) := fun F G H r s tm us w r' I hl e Q q => by
  obtain ⟨⟨d, r1⟩, e1, e⟩ := Option.bind_eq_some_iff.mp e
  cases e
  exact h F G H r s tm us d r1 I hl e1 _ fun v G1 H1 x1 I1 l1 hd => q v G1 H1 x1 (by simpa only [W.tm, W.vl, List.append_nil] using I1) l1 hd
def dVar (i : Nat) : ED := fun r => match r[i]? with
  | some .un => none
  | none => none
  | some _ => some (.pl i, r)
theorem Rt.some_of {t : T} {y : Option V} {f : Fp} (h : Rt K G H t y f) (n : t ≠ .un) : ∃ v, y = some v := by
  cases h with
  | un => exact absurd rfl n
  | fz _ => exact ⟨_, rfl⟩
  | ls _ _ _ _ => exact ⟨_, rfl⟩
  | tp _ _ _ _ => exact ⟨_, rfl⟩
  | dk _ _ _ _ => exact ⟨_, rfl⟩
  | dt _ _ _ _ => exact ⟨_, rfl⟩
theorem SI.val (I : SI K F G H (r ++ tm) (s ++ us)) (hl : r.length = s.length) {i : Nat} {t : T} (e : r[i]? = some t) (n : t ≠ .un) : ∃ v, s[i]? = some (some v) := by
  obtain ⟨f, hr, _⟩ := I.own
  have hi : i < r.length := (List.getElem?_eq_some_iff.mp e).1
  obtain ⟨y, g, h, b1, b2, _⟩ := hr.at (i := i) (by rw [List.getElem?_append_left hi]; exact e)
  obtain ⟨v, rfl⟩ := b2.some_of n
  rw [List.getElem?_append_left (by omega)] at b1
  exact ⟨v, b1⟩
theorem de_var {i : Nat} : DE K (tVar i) (dVar i) := fun F G H r s tm us w r' I hl e Q q => by
  unfold dVar at e
  split at e
  · cases e
  · cases e
  · rename_i t hr n
    cases e
    obtain ⟨v, hv⟩ := I.val hl n hr
    exact ⟨v, hv, q v G H (Ex.refl G) (by simpa only [W.tm, W.vl, List.append_nil] using I) hl hv⟩
def dC (d : D) : ED := fun r => some (.sh d, r)
theorem de_c {d : D} {v : V} (h : ∀ G, Rp K G d v) : DE K (tC v) (dC d) := fun F G H r s tm us w r' I hl e Q q => by
  cases e
  exact q v G H (Ex.refl G) (by simpa only [W.tm, W.vl, List.append_nil] using I) hl (h G)
/-- the variable's own thing goes out of its slot -/
def dMove (i : Nat) : ED := fun r => match r[i]? with
  | some .un => none
  | none => none
  | some t => some (.nw t, r.set i .un)
theorem de_move {i : Nat} : DE K (tVar i) (dMove i) := fun F G H r s tm us w r' I hl e Q q => by
  unfold dMove at e
  split at e
  · cases e
  · cases e
  · rename_i t hr n
    cases e
    have hi : i < r.length := (List.getElem?_eq_some_iff.mp n).1
    obtain ⟨v, hv⟩ := I.val hl n hr
    refine ⟨v, hv, q v G H (Ex.refl G) ?_ (by rw [List.length_set]; exact hl) trivial⟩
    obtain ⟨f, hr, hf⟩ := I.own
    obtain ⟨y, g, h, b1, b2, b3, b4, b5, b6⟩ := hr.at (i := i) (by rw [List.getElem?_append_left hi]; exact n)
    have k1 := b6 G H .un y (fun _ => False) (Ex.refl G) (fun _ _ => rfl) .un (fun b hb => hb.elim)
    rw [set_same b1, List.set_append_left _ _ hi] at k1
    rw [List.getElem?_append_left (by omega), hv] at b1
    cases b1
    have k2 : RtL K G H [t] [some v] g := .cons b2 (h := fun _ => False) .nil (fun b hb => hb) (fun b hb => hb.elim) (fun b _ z => z)
    have k3 := k2.app k1 (fun b hb z => hb.elim (fun q => q) fun q => b5 b z q)
    simp only [W.tm, W.vl, ← List.append_assoc]
    exact I.same hf k3 fun b hb => hb.elim (fun z => z.elim (fun q => q.elim) (b4 b)) (b3 b)
def fdNil : FDs := fun r => some ([], r)
def fdCons (f : FD) (g : FDs) : FDs := fun r => (f r).bind fun p => (g p.2).bind fun q => some (p.1 :: q.1, q.2)
theorem fd_nil : DFs K tNil fdNil := fun F G H r s tm us d r' I hl e Q q => by
  cases e
  exact q [] G H (Ex.refl G) I hl .nil
theorem fd_cons {te : TE} {ta : TA} {f : FD} {g : FDs} (h1 : DF K te f) (h2 : DFs K ta g) : DFs K (tCons te ta) (fdCons f g) := fun F G H r s tm us d r' I hl e Q q => by
  obtain ⟨⟨d1, r1⟩, e1, e⟩ := Option.bind_eq_some_iff.mp e
  obtain ⟨⟨ds, r2⟩, e2, e⟩ := Option.bind_eq_some_iff.mp e
  cases e
  exact h1 F G H r s tm us d1 r1 I hl e1 _ fun v G1 H1 x1 I1 l1 q1 => h2 F G1 H1 r1 s tm us ds r2 I1 l1 e2 _ fun vs G2 H2 x2 I2 l2 q2 => q _ G2 H2 (x1.trans x2) I2 l2 (.cons (q1.mono x2) q2)
def mv (r : Env) : W → Option (T × Env)
  | .nw t => some (t, r)
  | w => (share r w).bind fun p => some (.fz p.1, p.2)
theorem fz_in (I : SI K F G H (r ++ tm) (s ++ us)) {d : D} {v : V} (q : Rp K G d v) : SI K F G H (r ++ (tm ++ [.fz d])) (s ++ (us ++ [some v])) := by
  have := I.fzs (l := [d]) (vs := [v]) (.cons q .nil)
  simpa only [List.map_cons, List.map_nil, List.append_assoc] using this
theorem mv_ok {w : W} {v : V} {t : T} (I : SI K F G H (r ++ (tm ++ w.tm)) (s ++ (us ++ w.vl v))) (hl : r.length = s.length) (hw : WV K G s w v) (e : mv r w = some (t, r')) : ∃ G', Ex G G' ∧ SI K F G' H (r' ++ (tm ++ [t])) (s ++ (us ++ [some v])) ∧ r'.length = s.length := by
  cases w with
  | nw t' => cases e; exact ⟨G, Ex.refl G, I, hl⟩
  | sh d =>
    obtain ⟨⟨d', r1⟩, e1, e⟩ := Option.bind_eq_some_iff.mp (show (share r (.sh d)).bind (fun p => some (T.fz p.1, p.2)) = some (t, r') from e)
    cases e
    obtain ⟨G1, x1, I1, l1, q1⟩ := share_ok I hl hw e1
    exact ⟨G1, x1, fz_in I1 q1, l1⟩
  | pl i =>
    obtain ⟨⟨d', r1⟩, e1, e⟩ := Option.bind_eq_some_iff.mp (show (share r (.pl i)).bind (fun p => some (T.fz p.1, p.2)) = some (t, r') from e)
    cases e
    obtain ⟨G1, x1, I1, l1, q1⟩ := share_ok I hl hw e1
    exact ⟨G1, x1, fz_in I1 q1, l1⟩
def dMv (f : ED) : MD := fun r => (f r).bind fun p => mv p.2 p.1
theorem dm_of {te : TE} {f : ED} (h : DE K te f) : DM K te (dMv f) := fun F G H r s tm us t r' I hl e Q q => by
  obtain ⟨⟨w, r1⟩, e1, e⟩ := Option.bind_eq_some_iff.mp e
  refine h F G H r s tm us w r1 I hl e1 _ fun v G1 H1 x1 I1 l1 hw => ?_
  obtain ⟨G2, x2, I2, l2⟩ := mv_ok I1 l1 hw e
  exact q v G2 H1 (x1.trans x2) I2 l2
def mdNil : MDs := fun r => some ([], r)
def mdCons (f : MD) (g : MDs) : MDs := fun r => (f r).bind fun p => (g p.2).bind fun q => some (p.1 :: q.1, q.2)
theorem md_nil : DMs K tNil mdNil := fun F G H r s tm us d r' I hl e Q q => by
  cases e
  exact q [] G H (Ex.refl G) (by simpa only [List.map_nil, List.append_nil] using I) hl rfl
theorem md_cons {te : TE} {ta : TA} {f : MD} {g : MDs} (h1 : DM K te f) (h2 : DMs K ta g) : DMs K (tCons te ta) (mdCons f g) := fun F G H r s tm us d r' I hl e Q q => by
  obtain ⟨⟨t1, r1⟩, e1, e⟩ := Option.bind_eq_some_iff.mp e
  obtain ⟨⟨ts, r2⟩, e2, e⟩ := Option.bind_eq_some_iff.mp e
  cases e
  refine h1 F G H r s tm us t1 r1 I hl e1 _ fun v G1 H1 x1 I1 l1 => h2 F G1 H1 r1 s (tm ++ [t1]) (us ++ [some v]) ts r2 I1 l1 e2 _ fun vs G2 H2 x2 I2 l2 lv => q (v :: vs) G2 H2 (x1.trans x2) ?_ l2 (congrArg Nat.succ lv)
  simpa only [List.append_assoc, List.cons_append, List.nil_append, List.map_cons] using I2

/-! ### operations upon shared values -/
inductive Rs where
  | val (d : D) | newT (l : List D) | newL (l : List D)
def Rs.w : Rs → W
  | .val d => .sh d
  | .newT l => .sh (.tup l)
  | .newL l => .nw (.ls (l.map .fz))
/-- what is wanted of an operation's end, by what it is worth -/
def RsOk (K : PySem.W.Frag) (G H : Hp) (Q : VK) : Rs → Prop
  | .val d => ∀ w, Rp K G d w → Q w H
  | .newT l => (∀ w, Rp K G (.tup l) w → Q w H) ∧ ∀ p vs, H p = none → RpL K G l vs → Q (.ref p) (upd H p (.tup vs))
  | .newL l => ∀ p vs, H p = none → RpL K G l vs → Q (.ref p) (upd H p (.lst vs))
theorem rs_ok {z : Rs} {Q : VK} (I : SI K F G H (r ++ tm) (s ++ us)) (hl : r.length = s.length) (q : ∀ v G' H', Ex G G' → SI K F G' H' (r ++ (tm ++ z.w.tm)) (s ++ (us ++ z.w.vl v)) → r.length = s.length → WV K G' s z.w v → Q v H') : RsOk K G H Q z := by
  cases z with
  | val d => exact fun w h => q w G H (Ex.refl G) (by simpa only [Rs.w, W.tm, W.vl, List.append_nil] using I) hl h
  | newT l => exact ⟨fun w h => q w G H (Ex.refl G) (by simpa only [Rs.w, W.tm, W.vl, List.append_nil] using I) hl h, fun p vs hp h => q _ _ _ (Ex.new (I.Gnone hp)) (by simpa only [Rs.w, W.tm, W.vl, List.append_nil] using I.laid hp (o := .tup vs) (fun _ _ z => HO.noConfusion z)) hl (.tup (Or.inl (Or.inl upd_same)) (h.mono (Ex.new (I.Gnone hp))))⟩
  | newL l =>
    refine fun p vs hp h => q _ _ _ (Ex.refl G) ?_ hl trivial
    have := (I.fzs h).pack I.len hp
    simpa only [Rs.w, W.tm, W.vl, List.append_assoc] using this
def DC (K : PySem.W.Frag) (rl : List V → Hp → VK → Prop) (g : List D → Option Rs) : Prop := ∀ G H xs vs z, Sub G H → Plain G → RpL K G xs vs → g xs = some z → ∀ Q : VK, RsOk K G H Q z → rl vs H Q
/-- several values, then an operation -/
def dWith (f : FDs) (g : List D → Option Rs) : ED := fun r => (f r).bind fun p => (g p.1).bind fun z => some (z.w, p.2)
theorem de_with {ta : TA} {f : FDs} {rl : List V → Hp → VK → Prop} {g : List D → Option Rs} (hf : DFs K ta f) (hg : DC K rl g) : DE K (fun σ H Q => ta σ H fun vs H1 => rl vs H1 Q) (dWith f g) := fun F G H r s tm us w r' I hl e Q q => by
  obtain ⟨⟨ds, r1⟩, e1, e⟩ := Option.bind_eq_some_iff.mp e
  obtain ⟨z, e2, e⟩ := Option.bind_eq_some_iff.mp e
  cases e
  exact hf F G H r s tm us ds r1 I hl e1 _ fun vs G1 H1 x1 I1 l1 q1 => hg G1 H1 ds vs z I1.gh I1.pl q1 e2 Q (rs_ok I1 l1 fun v G' H' x2 I2 l2 hw => q v G' H' (x1.trans x2) I2 l2 hw)
def rl2 (rl : R2) : List V → Hp → VK → Prop := fun vs H Q => match vs with
  | [v, u] => rl v u H Q
  | _ => False
def rl1 (rl : V → Hp → VK → Prop) : List V → Hp → VK → Prop := fun vs H Q => match vs with
  | [v] => rl v H Q
  | _ => False
def dOp (g : List D → Option Rs) (fa fb : FD) : ED := dWith (fdCons fa (fdCons fb fdNil)) g
def dUn (g : List D → Option Rs) (fa : FD) : ED := dWith (fdCons fa fdNil) g
theorem de_op {fa fb : FD} {g : List D → Option Rs} {ta tb : TE} {rl : R2} (ha : DF K ta fa) (hb : DF K tb fb) (hg : DC K (rl2 rl) g) : DE K (tOp rl ta tb) (dOp g fa fb) := fun F G H r s tm us w r' I hl e Q q =>
  de_with (ta := tCons ta (tCons tb tNil)) (rl := rl2 rl) (fd_cons ha (fd_cons hb fd_nil)) hg F G H r s tm us w r' I hl e Q q
theorem de_un {fa : FD} {g : List D → Option Rs} {ta : TE} {rl : V → Hp → VK → Prop} (ha : DF K ta fa) (hg : DC K (rl1 rl) g) : DE K (tUn rl ta) (dUn g fa) := fun F G H r s tm us w r' I hl e Q q =>
  de_with (ta := tCons ta tNil) (rl := rl1 rl) (fd_cons ha fd_nil) hg F G H r s tm us w r' I hl e Q q
/-! ### displays -/
theorem big {n : Nat} (h : n ≤ 1000000) : n ≤ sizeLine := Nat.le_trans h (by decide)
theorem bigl {n : Nat} (h : n < 1000000) : n < sizeLine := Nat.lt_of_lt_of_le h (by decide)
def gTupD (l : List D) : Option Rs := if l.length ≤ 1000000 then some (.newT l) else none
def gLstD (l : List D) : Option Rs := if l.length ≤ 1000000 then some (.newL l) else none
theorem de_tup {ta : TA} {f : FDs} (h : DFs K ta f) : DE K (tTup ta) (dWith f gTupD) := by
  refine de_with (rl := fun xs H Q => xs.length ≤ sizeLine ∧ ∀ p, H p = none → Q (.ref p) (upd H p (.tup xs))) h fun G H xs vs z _ _ q e Q k => ?_
  unfold gTupD at e
  split at e
  · rename_i c
    cases e
    exact ⟨big (q.length ▸ c), fun p hp => k.2 p vs hp q⟩
  · cases e
theorem de_lst {ta : TA} {f : FDs} (h : DFs K ta f) : DE K (tLst ta) (dWith f gLstD) := by
  refine de_with (rl := fun xs H Q => xs.length ≤ sizeLine ∧ ∀ p, H p = none → Q (.ref p) (upd H p (.lst xs))) h fun G H xs vs z _ _ q e Q k => ?_
  unfold gLstD at e
  split at e
  · rename_i c
    cases e
    exact ⟨big (q.length ▸ c), fun p hp => k p vs hp q⟩
  · cases e
def dLstO (f : MDs) : ED := fun r => (f r).bind fun p => if p.1.length ≤ 1000000 then some (.nw (.ls p.1), p.2) else none
def dTupO (f : MDs) : ED := fun r => (f r).bind fun p => if p.1.length ≤ 1000000 then some (.nw (.tp p.1), p.2) else none
theorem assoc_len {ts : List T} {vs : List V} (I : SI K F G H (r ++ (tm ++ ts)) (s ++ (us ++ vs.map some))) (hl : r.length = s.length) (h : ts.length = vs.length) : (r ++ tm).length = (s ++ us).length := by
  have := I.len
  simp at this ⊢
  omega
theorem de_lstO {ta : TA} {f : MDs} (h : DMs K ta f) : DE K (tLst ta) (dLstO f) := fun F G H r s tm us w r' I hl e Q q => by
  obtain ⟨⟨ts, r1⟩, e1, e⟩ := Option.bind_eq_some_iff.mp e
  split at e
  · rename_i c
    cases e
    refine h F G H r s tm us ts r1 I hl e1 _ fun vs G1 H1 x1 I1 l1 hv => ?_
    refine ⟨big (hv ▸ c), fun p hp => q _ _ _ x1 ?_ l1 trivial⟩
    have I2 : SI K F G1 H1 ((r1 ++ tm) ++ ts) ((s ++ us) ++ vs.map some) := by simpa only [List.append_assoc] using I1
    simpa only [W.tm, W.vl, List.append_assoc] using I2.pack (assoc_len I1 l1 hv) hp
  · cases e
theorem de_tupO {ta : TA} {f : MDs} (h : DMs K ta f) : DE K (tTup ta) (dTupO f) := fun F G H r s tm us w r' I hl e Q q => by
  obtain ⟨⟨ts, r1⟩, e1, e⟩ := Option.bind_eq_some_iff.mp e
  split at e
  · rename_i c
    cases e
    refine h F G H r s tm us ts r1 I hl e1 _ fun vs G1 H1 x1 I1 l1 hv => ?_
    refine ⟨big (hv ▸ c), fun p hp => q _ _ _ x1 ?_ l1 trivial⟩
    have I2 : SI K F G1 H1 ((r1 ++ tm) ++ ts) ((s ++ us) ++ vs.map some) := by simpa only [List.append_assoc] using I1
    simpa only [W.tm, W.vl, List.append_assoc] using I2.packT (assoc_len I1 l1 hv) hp
  · cases e
/-! ### tests -/
def truth : D → Option Bool
  | .non => some false
  | .bl b => some b
  | .int i => some (i != 0)
  | .str x => if x.length ≤ 1000000 then some ((x.length : Int) != 0) else none
  | .lst l => some (!l.isEmpty)
  | .tup l => some (!l.isEmpty)
  | _ => none
theorem truth_ok {d : D} {v : V} {b : Bool} (q : Rp K H d v) (e : truth d = some b) : TruV K v H b := by
  cases d with
  | non => cases q; cases e; rfl
  | bl c => cases q; cases e; rfl
  | int i => cases q; cases e; rfl
  | str z =>
    cases q
    unfold truth at e
    dsimp only at e
    split at e
    · rename_i c; cases e; exact ⟨big c, rfl⟩
    · cases e
  | lst l =>
    cases e
    cases q with | lst h1 h2 =>
      refine Or.inl ⟨_, Or.inl (Or.inl h1), ?_⟩
      cases h2 <;> rfl
  | tup l =>
    cases e
    cases q with | tup h1 h2 =>
      refine Or.inr (Or.inl ⟨_, h1, ?_⟩)
      cases h2 <;> rfl
  | dk ks l => cases e
  | dt ks l => cases e
  | exc c => cases e
  | scr c => cases e
  | fnc c => cases e
def dTru (f : FD) : BD := fun r => (f r).bind fun p => (truth p.1).bind fun b => some (b, p.2)
theorem dt_tru {te : TE} {f : FD} (h : DF K te f) : DT K (fun σ H Q => te σ H fun x H' => ∃ k, TruV K x H' k ∧ Q k H') (dTru f) := fun F G H r s tm us b r' I hl e Q q => by
  obtain ⟨⟨d, r1⟩, e1, e⟩ := Option.bind_eq_some_iff.mp e
  obtain ⟨c, e3, e⟩ := Option.bind_eq_some_iff.mp e
  cases e
  exact h F G H r s tm us d r1 I hl e1 _ fun v G1 H1 x1 I1 l1 hd => ⟨b, truth_ok (Rp.sub I1.pl I1.gh _ _ hd) e3, q G1 H1 x1 I1 l1⟩
def D.bool : D → Option Bool
  | .bl b => some b
  | _ => none
theorem bool_rp {d : D} {v : V} {b : Bool} (h : Rp K G d v) (e : d.bool = some b) : v = .bl b := by
  cases d with
  | bl c => cases e; cases h; rfl
  | _ => cases e
def dBl (f : FD) : BD := fun r => (f r).bind fun p => p.1.bool.bind fun b => some (b, p.2)
theorem dt_bl {te : TE} {f : FD} (h : DF K te f) : DT K (tB te) (dBl f) := fun F G H r s tm us b r' I hl e Q q => by
  obtain ⟨⟨d, r1⟩, e1, e⟩ := Option.bind_eq_some_iff.mp e
  obtain ⟨c, e3, e⟩ := Option.bind_eq_some_iff.mp e
  cases e
  exact h F G H r s tm us d r1 I hl e1 _ fun v G1 H1 x1 I1 l1 hd => ⟨b, bool_rp hd e3, q G1 H1 x1 I1 l1⟩
def dAnd (f g : BD) : BD := fun r => (f r).bind fun p => if p.1 = true then g p.2 else some (false, p.2)
def dOr (f g : BD) : BD := fun r => (f r).bind fun p => if p.1 = true then some (true, p.2) else g p.2
def dNot (f : BD) : BD := fun r => (f r).bind fun p => some (!p.1, p.2)
theorem dt_and {t u : TT} {f g : BD} (h1 : DT K t f) (h2 : DT K u g) : DT K (tAnd t u) (dAnd f g) := fun F G H r s tm us b r' I hl e Q q => by
  obtain ⟨⟨c, r1⟩, e1, e⟩ := Option.bind_eq_some_iff.mp e
  refine h1 F G H r s tm us c r1 I hl e1 _ fun G1 H1 x1 I1 l1 => ?_
  cases c with
  | true => exact h2 F G1 H1 r1 s tm us b r' I1 l1 e Q fun G2 H2 x2 I2 l2 => q G2 H2 (x1.trans x2) I2 l2
  | false => cases e; exact q G1 H1 x1 I1 l1
theorem dt_or {t u : TT} {f g : BD} (h1 : DT K t f) (h2 : DT K u g) : DT K (tOr t u) (dOr f g) := fun F G H r s tm us b r' I hl e Q q => by
  obtain ⟨⟨c, r1⟩, e1, e⟩ := Option.bind_eq_some_iff.mp e
  refine h1 F G H r s tm us c r1 I hl e1 _ fun G1 H1 x1 I1 l1 => ?_
  cases c with
  | false => exact h2 F G1 H1 r1 s tm us b r' I1 l1 e Q fun G2 H2 x2 I2 l2 => q G2 H2 (x1.trans x2) I2 l2
  | true => cases e; exact q G1 H1 x1 I1 l1
theorem dt_not {t : TT} {f : BD} (h1 : DT K t f) : DT K (tNot t) (dNot f) := fun F G H r s tm us b r' I hl e Q q => by
  obtain ⟨⟨c, r1⟩, e1, e⟩ := Option.bind_eq_some_iff.mp e
  cases e
  exact h1 F G H r s tm us c r1 I hl e1 _ fun G1 H1 x1 I1 l1 => q G1 H1 x1 I1 l1
def dBool (f : BD) : ED := fun r => (f r).bind fun p => some (.sh (.bl p.1), p.2)
theorem de_andV {ta tb : TE} {f g : FD} (h1 : DF K ta f) (h2 : DF K tb g) : DE K (tAndV ta tb) (dBool (dAnd (dBl f) (dBl g))) := fun F G H r s tm us w r' I hl e Q q => by
  obtain ⟨⟨c, r1⟩, e1, e⟩ := Option.bind_eq_some_iff.mp e
  cases e
  obtain ⟨⟨c1, r2⟩, e2, e3⟩ := Option.bind_eq_some_iff.mp e1
  obtain ⟨⟨d, r3⟩, e4, e5⟩ := Option.bind_eq_some_iff.mp e2
  obtain ⟨c2, e6, e7⟩ := Option.bind_eq_some_iff.mp e5
  cases e7
  refine h1 F G H r s tm us d r3 I hl e4 _ fun v G1 H1 x1 I1 l1 hd => ⟨c1, bool_rp hd e6, ?_⟩
  cases c1 with
  | true =>
    obtain ⟨⟨d', r4⟩, e8, e9⟩ := Option.bind_eq_some_iff.mp (show dBl g _ = some _ from e3)
    obtain ⟨c3, e10, e11⟩ := Option.bind_eq_some_iff.mp e9
    cases e11
    exact h2 F G1 H1 r3 s tm us d' r4 I1 l1 e8 Q fun v2 G2 H2 x2 I2 l2 hd2 => q v2 G2 H2 (x1.trans x2) (by simpa only [W.tm, W.vl, List.append_nil] using I2) l2 (by rw [bool_rp hd2 e10]; exact .bl c)
  | false =>
    cases e3
    exact q _ G1 H1 x1 (by simpa only [W.tm, W.vl, List.append_nil] using I1) l1 (.bl false)
theorem de_orV {ta tb : TE} {f g : FD} (h1 : DF K ta f) (h2 : DF K tb g) : DE K (tOrV ta tb) (dBool (dOr (dBl f) (dBl g))) := fun F G H r s tm us w r' I hl e Q q => by
  obtain ⟨⟨c, r1⟩, e1, e⟩ := Option.bind_eq_some_iff.mp e
  cases e
  obtain ⟨⟨c1, r2⟩, e2, e3⟩ := Option.bind_eq_some_iff.mp e1
  obtain ⟨⟨d, r3⟩, e4, e5⟩ := Option.bind_eq_some_iff.mp e2
  obtain ⟨c2, e6, e7⟩ := Option.bind_eq_some_iff.mp e5
  cases e7
  refine h1 F G H r s tm us d r3 I hl e4 _ fun v G1 H1 x1 I1 l1 hd => ⟨c1, bool_rp hd e6, ?_⟩
  cases c1 with
  | false =>
    obtain ⟨⟨d', r4⟩, e8, e9⟩ := Option.bind_eq_some_iff.mp (show dBl g _ = some _ from e3)
    obtain ⟨c3, e10, e11⟩ := Option.bind_eq_some_iff.mp e9
    cases e11
    exact h2 F G1 H1 r3 s tm us d' r4 I1 l1 e8 Q fun v2 G2 H2 x2 I2 l2 hd2 => q v2 G2 H2 (x1.trans x2) (by simpa only [W.tm, W.vl, List.append_nil] using I2) l2 (by rw [bool_rp hd2 e10]; exact .bl c)
  | true => cases e3; exact q _ G1 H1 x1 (by simpa only [W.tm, W.vl, List.append_nil] using I1) l1 (.bl true)
theorem de_notV {ta : TE} {f : FD} (h1 : DF K ta f) : DE K (tNotV ta) (dBool (dNot (dBl f))) := fun F G H r s tm us w r' I hl e Q q => by
  obtain ⟨⟨c, r1⟩, e1, e⟩ := Option.bind_eq_some_iff.mp e
  cases e
  obtain ⟨⟨c1, r2⟩, e2, e3⟩ := Option.bind_eq_some_iff.mp e1
  cases e3
  obtain ⟨⟨d, r3⟩, e4, e5⟩ := Option.bind_eq_some_iff.mp e2
  obtain ⟨c2, e6, e7⟩ := Option.bind_eq_some_iff.mp e5
  cases e7
  exact h1 F G H r s tm us d r3 I hl e4 _ fun v G1 H1 x1 I1 l1 hd => ⟨c1, bool_rp hd e6, q _ G1 H1 x1 (by simpa only [W.tm, W.vl, List.append_nil] using I1) l1 (.bl _)⟩
def dIfE (c : BD) (f g : ED) : ED := fun r => (c r).bind fun p => if p.1 = true then f p.2 else g p.2
theorem de_if {t : TT} {ta tb : TE} {c : BD} {f g : ED} (hc : DT K t c) (h1 : DE K ta f) (h2 : DE K tb g) : DE K (tIf t ta tb) (dIfE c f g) := fun F G H r s tm us w r' I hl e Q q => by
  obtain ⟨⟨k, r1⟩, e1, e⟩ := Option.bind_eq_some_iff.mp e
  refine hc F G H r s tm us k r1 I hl e1 _ fun G1 H1 x1 I1 l1 => ?_
  cases k with
  | true => exact h1 F G1 H1 r1 s tm us w r' I1 l1 e Q fun v G2 H2 x2 I2 l2 hw => q v G2 H2 (x1.trans x2) I2 l2 hw
  | false => exact h2 F G1 H1 r1 s tm us w r' I1 l1 e Q fun v G2 H2 x2 I2 l2 hw => q v G2 H2 (x1.trans x2) I2 l2 hw
/-! ### looked at only: nothing of the frame is shared for good -/
def T.frz (t : T) : T := match t.data with
  | some d => .fz d
  | none => .un
def D.scal : D → Bool
  | .non => true
  | .bl _ => true
  | .int _ => true
  | .str _ => true
  | _ => false
theorem scal_rp {d : D} {v : V} (h : Rp K G d v) (e : d.scal = true) : Rp K G' d v := by
  cases h with
  | non => exact .non
  | bl b => exact .bl b
  | int i => exact .int i
  | str z => exact .str z
  | _ => cases e
theorem RtL.iced {x : List (Option V)} (e : Ex G G') : ∀ {t : List T} {x : List (Option V)} {f : Fp}, RtL K G H t x f → (∀ b o, f b → H b = some o → (∀ q u, o ≠ .frz q u) → G' b = some o) → RtL K G' H (t.map T.frz) x (fun _ => False) := by
  intro t
  induction t with
  | nil => intro x f h k; cases h; exact .nil
  | cons t ts ih =>
    intro x f h k
    cases h with | cons a1 a2 a3 a4 a5 =>
      refine .cons (g := fun _ => False) (h := fun _ => False) ?_ (ih a2 fun b o hb => k b o (a4 b hb)) (fun b hb => hb) (fun b hb => hb) (fun b hb => hb.elim)
      unfold T.frz
      cases hd : t.data with
      | none => exact .un
      | some d =>
        obtain ⟨v, rfl, q⟩ := Rt.ice' e _ _ _ a1 (fun b o hb => k b o (a3 b hb)) d hd
        exact .fz q
theorem SI.look (I : SI K F G H r x) {x : List (Option V)} (I : SI K F G H r x) : ∃ F' G', Ex G G' ∧ SI K F' G' H (r.map T.frz) x ∧ ∀ G1 H1 r1 x1, SI K F' G1 H1 r1 x1 → SI K F G H1 r x := by
  obtain ⟨f, hr, hf⟩ := I.own
  have eg : Ex G (mix G f H) := fun b o hb => by
    rw [mix_out fun z => by rw [(hf b z).1] at hb; cases hb]
    exact hb
  refine ⟨⟨H, mix G f H, fun _ => False⟩, mix G f H, eg, ⟨⟨fun _ => False, hr.iced (x := x) eg (fun b o hb => mix_in hb), fun b hb => hb.elim⟩, fun a o e _ => e, fun a c => c.elim, Ex.refl _, fun b o hb => ?_, trivial, fun a o e => Or.inl e⟩, fun G1 H1 r1 x1 J => ?_⟩
  · rcases mix_cases hb with ⟨_, q, _⟩ | q
    · exact Or.inl q
    · exact I.gh b o q
  · have kp : ∀ a o, H a = some o → H1 a = some o := fun a o e => J.keep a o e (fun z => z)
    have ne : ∀ a, H a ≠ none → H1 a = H a := fun a h => by
      cases e : H a with
      | none => exact absurd e h
      | some o => exact kp a o e
    refine I.next f hf (Ex.refl G) (fun a o e => ?_) I.pl (fun a o e _ => kp a o e) (fun a h => by rw [ne a h]; exact h) (fun a o e => Or.inl e) (hr.frame (Ex.refl G) fun b hb => ne b (hf b hb).2.1) (fun b hb => ⟨(hf b hb).1, by rw [ne b (hf b hb).2.1]; exact (hf b hb).2.1, Or.inl hb⟩)
    rcases I.gh a o e with q | ⟨z, o', q⟩
    · exact Or.inl (kp a _ q)
    · exact Or.inr ⟨z, o', kp a _ q⟩
def dScal (f : FD) : FD := fun r => (f (r.map T.frz)).bind fun p => if p.1.scal = true then some (p.1, r) else none
theorem df_scal {te : TE} {f : FD} (h : DF K te f) : DF K te (dScal f) := fun F G H r s tm us d r' I hl e Q q => by
  obtain ⟨⟨d1, r1⟩, e1, e⟩ := Option.bind_eq_some_iff.mp e
  split at e
  · rename_i c
    cases e
    obtain ⟨F', G', xg, J, back⟩ := I.look I
    rw [List.map_append] at J
    exact h F' G' H (r.map T.frz) s (tm.map T.frz) us d1 r1 J (by rw [List.length_map]; exact hl) e1 _ fun v G1 H1 x1 I1 l1 hd => q v G H1 (Ex.refl G) (back _ _ _ _ I1) hl (scal_rp hd c)
  · cases e
def dScalT (f : BD) : BD := fun r => (f (r.map T.frz)).bind fun p => some (p.1, r)
theorem dt_scal {te : TT} {f : BD} (h : DT K te f) : DT K te (dScalT f) := fun F G H r s tm us d r' I hl e Q q => by
  obtain ⟨⟨d1, r1⟩, e1, e⟩ := Option.bind_eq_some_iff.mp e
  cases e
  obtain ⟨F', G', xg, J, back⟩ := I.look I
  rw [List.map_append] at J
  exact h F' G' H (r.map T.frz) s (tm.map T.frz) us d1 r1 J (by rw [List.length_map]; exact hl) e1 _ fun G1 H1 x1 I1 l1 => q G H1 (Ex.refl G) (back _ _ _ _ I1) hl
end
end Q

set_option Elab.async false
set_option linter.all false
set_option maxRecDepth 100000
set_option maxHeartbeats 2000000
namespace Q
open PySem PySem.Spec PyProof.Rows L2
/-! ### statements -/
inductive O where
  | nx (r : Env) | rt (w : W) (r : Env) | bk (r : Env) | ct (r : Env) | ex (c : Addr) (r : Env)
abbrev SD := Env → Option O
def Par (P : Nat → Option (Option V)) (s : L2.St) : Prop := ∀ i v, P i = some v → s[i]? = some v
def OOk (K : PySem.W.Frag) (F : Fx) (P : Nat → Option (Option V)) (X : WX) (G : Hp) (E : Ends) : O → Prop
  | .nx r => ∀ s' G' H', Ex G G' → SI K F G' H' r s' → Par P s' → E.nx s' H'
  | .rt w r => ∀ v s' G' H', Ex G G' → SI K F G' H' (r ++ w.tm) (s' ++ w.vl v) → r.length = s'.length → WV K G' s' w v → Par P s' → E.rt v H'
  | .bk r => ∀ s' G' H', Ex G G' → SI K F G' H' r s' → Par P s' → E.bk s' H'
  | .ct r => ∀ s' G' H', Ex G G' → SI K F G' H' r s' → Par P s' → E.ct s' H'
  | .ex c r => ∀ s' G' H', Ex G G' → SI K F G' H' r s' → Par P s' → X (.ref c) none s' H'
def DS (K : PySem.W.Frag) (A : Nat → Bool) (X : WX) (ts : TS) (g : SD) : Prop := ∀ F P G H r s o, (∀ i, A i = true → P i = none) → SI K F G H r s → Par P s → g r = some o → ∀ E : Ends, OOk K F P X G E o → ts E s H
abbrev XD := Env → Option (Sum W Addr × Env)
def XOk (K : PySem.W.Frag) (F : Fx) (X : WX) (G : Hp) (s : L2.St) (r' : Env) (Q : VK) : Sum W Addr → Prop
  | .inl w => ∀ v G' H', Ex G G' → SI K F G' H' (r' ++ w.tm) (s ++ w.vl v) → r'.length = s.length → WV K G' s w v → Q v H'
  | .inr c => ∀ G' H', Ex G G' → SI K F G' H' r' s → X (.ref c) none s H'
def DX (K : PySem.W.Frag) (X : WX) (te : TE) (f : XD) : Prop := ∀ F G H r s z r', SI K F G H r s → f r = some (z, r') → ∀ Q : VK, XOk K F X G s r' Q z → te s H Q
abbrev XB := Env → Option (Sum Bool Addr × Env)
def DTX (K : PySem.W.Frag) (X : WX) (tt : TT) (f : XB) : Prop := ∀ F G H r s z r', SI K F G H r s → f r = some (z, r') → ∀ Q : Bool → Hp → Prop,
  (match z with
    | .inl b => ∀ G' H', Ex G G' → SI K F G' H' r' s → Q b H'
    | .inr c => ∀ G' H', Ex G G' → SI K F G' H' r' s → X (.ref c) none s H') → tt s H Q
section
variable {K : PySem.W.Frag} {A : Nat → Bool} {X : WX}
theorem OOk.mono {F : Fx} {P : Nat → Option (Option V)} {G G' : Hp} {E : Ends} {o : O} (x : Ex G G') (h : OOk K F P X G E o) : OOk K F P X G' E o := by
  cases o with
  | nx r => exact fun s' G2 H2 x2 => h s' G2 H2 (x.trans x2)
  | rt w r => exact fun v s' G2 H2 x2 => h v s' G2 H2 (x.trans x2)
  | bk r => exact fun s' G2 H2 x2 => h s' G2 H2 (x.trans x2)
  | ct r => exact fun s' G2 H2 x2 => h s' G2 H2 (x.trans x2)
  | ex c r => exact fun s' G2 H2 x2 => h s' G2 H2 (x.trans x2)
def xLift (f : ED) : XD := fun r => (f r).bind fun p => some (.inl p.1, p.2)
theorem dx_of {te : TE} {f : ED} (h : DE K te f) : DX K X te (xLift f) := fun F G H r s z r' I e Q q => by
  obtain ⟨⟨w, r1⟩, e1, e⟩ := Option.bind_eq_some_iff.mp e
  cases e
  exact h F G H r s [] [] w r1 (by simpa only [List.append_nil] using I) I.len e1 Q fun v G' H' x1 I1 l1 hw => q v G' H' x1 (by simpa only [List.nil_append] using I1) l1 hw
def xbLift (f : BD) : XB := fun r => (f r).bind fun p => some (.inl p.1, p.2)
theorem dtx_of {te : TT} {f : BD} (h : DT K te f) : DTX K X te (xbLift f) := fun F G H r s z r' I e Q q => by
  obtain ⟨⟨w, r1⟩, e1, e⟩ := Option.bind_eq_some_iff.mp e
  cases e
  exact h F G H r s [] [] w r1 (by simpa only [List.append_nil] using I) I.len e1 Q fun G' H' x1 I1 l1 => q G' H' x1 (by simpa only [List.append_nil] using I1)
def xBl (f : XD) : XB := fun r => (f r).bind fun p => match p.1 with
  | .inl w => (share p.2 w).bind fun q => q.1.bool.bind fun b => some (.inl b, q.2)
  | .inr c => some (.inr c, p.2)
theorem dtx_bl {te : TE} {f : XD} (h : DX K X te f) : DTX K X (tB te) (xBl f) := fun F G H r s z r' I e Q q => by
  obtain ⟨⟨z1, r1⟩, e1, e⟩ := Option.bind_eq_some_iff.mp e
  cases z1 with
  | inl w =>
    obtain ⟨⟨d, r2⟩, e2, e⟩ := Option.bind_eq_some_iff.mp e
    obtain ⟨b, e3, e⟩ := Option.bind_eq_some_iff.mp e
    cases e
    refine h F G H r s (.inl w) r1 I e1 _ fun v G1 H1 x1 I1 l1 hw => ?_
    obtain ⟨G2, x2, I2, l2, q2⟩ := share_ok (tm := []) (us := []) (by simpa only [List.nil_append] using I1) l1 hw e2
    exact ⟨b, bool_rp q2 e3, q G2 H1 (x1.trans x2) (by simpa only [List.append_nil] using I2)⟩
  | inr c =>
    cases e
    exact h F G H r s (.inr c) _ I e1 _ q
def xNot (f : XB) : XB := fun r => (f r).bind fun p => match p.1 with
  | .inl b => some (.inl (!b), p.2)
  | .inr c => some (.inr c, p.2)
theorem dtx_not {te : TT} {f : XB} (h : DTX K X te f) : DTX K X (tNot te) (xNot f) := fun F G H r s z r' I e Q q => by
  obtain ⟨⟨z1, r1⟩, e1, e⟩ := Option.bind_eq_some_iff.mp e
  cases z1 with
  | inl b => cases e; exact h F G H r s (.inl b) _ I e1 _ q
  | inr c => cases e; exact h F G H r s (.inr c) _ I e1 _ q
def dNext : SD := fun r => some (.nx r)
def dSeq (g h : SD) : SD := fun r => (g r).bind fun o => match o with
  | .nx r1 => h r1
  | .rt w r1 => some (.rt w r1)
  | .bk r1 => some (.bk r1)
  | .ct r1 => some (.ct r1)
  | .ex c r1 => some (.ex c r1)
theorem ds_next : DS K A X tNext dNext := fun F P G H r s o a I p e E q => by
  cases e
  exact q s G H (Ex.refl G) I p
theorem ds_seq {t u : TS} {g h : SD} (h1 : DS K A X t g) (h2 : DS K A X u h) : DS K A X (tSeq t u) (dSeq g h) := fun F P G H r s o a I p e E q => by
  obtain ⟨o1, e1, e⟩ := Option.bind_eq_some_iff.mp e
  refine h1 F P G H r s o1 a I p e1 _ ?_
  cases o1 with
  | nx r1 => exact fun s' G' H' x I1 p1 => h2 F P G' H' r1 s' o a I1 p1 e E (q.mono x)
  | rt w r1 => cases e; exact q
  | bk r1 => cases e; exact q
  | ct r1 => cases e; exact q
  | ex c r1 => cases e; exact q
def dIf (c : XB) (g h : SD) : SD := fun r => (c r).bind fun p => match p.1 with
  | .inl true => g p.2
  | .inl false => h p.2
  | .inr c => some (.ex c p.2)
theorem ds_if {c : TT} {t u : TS} {b : XB} {g h : SD} (hc : DTX K X c b) (h1 : DS K A X t g) (h2 : DS K A X u h) : DS K A X (tIfS c t u) (dIf b g h) := fun F P G H r s o a I p e E q => by
  obtain ⟨⟨k, r1⟩, e1, e⟩ := Option.bind_eq_some_iff.mp e
  cases k with
  | inl k =>
    refine hc F G H r s (.inl k) r1 I e1 _ fun G1 H1 x1 I1 => ?_
    cases k with
    | true => exact h1 F P G1 H1 r1 s o a I1 p e E (q.mono x1)
    | false => exact h2 F P G1 H1 r1 s o a I1 p e E (q.mono x1)
  | inr c =>
    cases e
    exact hc F G H r s (.inr c) r1 I e1 _ fun G1 H1 x1 I1 => q s G1 H1 x1 I1 p
def dRet (f : XD) : SD := fun r => (f r).bind fun p => match p.1 with
  | .inl w => some (.rt w p.2)
  | .inr c => some (.ex c p.2)
theorem ds_ret {te : TE} {f : XD} (h : DX K X te f) : DS K A X (tRet te) (dRet f) := fun F P G H r s o a I p e E q => by
  obtain ⟨⟨z, r1⟩, e1, e⟩ := Option.bind_eq_some_iff.mp e
  cases z with
  | inl w => cases e; exact h F G H r s (.inl w) r1 I e1 _ fun v G1 H1 x1 I1 l1 hw => q v s G1 H1 x1 I1 l1 hw p
  | inr c => cases e; exact h F G H r s (.inr c) r1 I e1 _ fun G1 H1 x1 I1 => q s G1 H1 x1 I1 p
def dDrop (f : XD) : SD := fun r => (f r).bind fun p => match p.1 with
  | .inl _ => some (.nx p.2)
  | .inr c => some (.ex c p.2)
theorem ds_drop {te : TE} {f : XD} (h : DX K X te f) : DS K A X (tDrop te) (dDrop f) := fun F P G H r s o a I p e E q => by
  obtain ⟨⟨z, r1⟩, e1, e⟩ := Option.bind_eq_some_iff.mp e
  cases z with
  | inl w => cases e; exact h F G H r s (.inl w) r1 I e1 _ fun v G1 H1 x1 I1 l1 hw => q s G1 H1 x1 (I1.drop l1) p
  | inr c => cases e; exact h F G H r s (.inr c) r1 I e1 _ fun G1 H1 x1 I1 => q s G1 H1 x1 I1 p
def dBrk : SD := fun r => some (.bk r)
def dCnt : SD := fun r => some (.ct r)
theorem ds_brk : DS K A X tBreak dBrk := fun F P G H r s o a I p e E q => by
  cases e
  exact q s G H (Ex.refl G) I p
theorem ds_cnt : DS K A X tCont dCnt := fun F P G H r s o a I p e E q => by
  cases e
  exact q s G H (Ex.refl G) I p
def dNever : SD := fun _ => none
theorem ds_never : DS K A X tNever dNever := fun F P G H r s o a I p e E q => by cases e
def dRaise (c : Addr) : SD := fun r => some (.ex c r)
theorem ds_raise {c : Addr} : DS K A X (fun _ σ H => X (.ref c) none σ H) (dRaise c) := fun F P G H r s o a I p e E q => by
  cases e
  exact q s G H (Ex.refl G) I p
/-! ### targets -/
abbrev GD := Env → T → Option Env
abbrev GDs := Env → List T → Option Env
def DG (K : PySem.W.Frag) (A : Nat → Bool) (g : TG) (h : GD) : Prop := ∀ F P G H r s t v tm us r', (∀ i, A i = true → P i = none) → SI K F G H (r ++ t :: tm) (s ++ some v :: us) → r.length = s.length → Par P s → h r t = some r' → ∀ Q : L2.St → Hp → Prop, (∀ s' G' H', Ex G G' → SI K F G' H' (r' ++ tm) (s' ++ us) → r'.length = s'.length → s'.length = s.length → Par P s' → Q s' H') → g v s H Q
def DGs (K : PySem.W.Frag) (A : Nat → Bool) (g : TGs) (h : GDs) : Prop := ∀ F P G H r s ts vs tm us r', (∀ i, A i = true → P i = none) → SI K F G H (r ++ (ts ++ tm)) (s ++ ((vs : List V).map some ++ us)) → r.length = s.length → ts.length = vs.length → Par P s → h r ts = some r' → ∀ Q : L2.St → Hp → Prop, (∀ s' G' H', Ex G G' → SI K F G' H' (r' ++ tm) (s' ++ us) → r'.length = s'.length → s'.length = s.length → Par P s' → Q s' H') → g vs s H Q
theorem Par.set {P : Nat → Option (Option V)} {s : L2.St} (p : Par P s) {i : Nat} {x : Option V} (h : P i = none) : Par P (s.set i x) := fun j v e => by
  have : i ≠ j := fun z => by subst z; rw [h] at e; cases e
  rw [List.getElem?_set_ne this]
  exact p j v e
theorem SI.into {F : Fx} {G H : Hp} {r : Env} {s : L2.St} {t : T} {y : Option V} {tm : List T} {us : List (Option V)} (I : SI K F G H (r ++ t :: tm) (s ++ y :: us)) (hl : r.length = s.length) (i : Nat) : SI K F G H (r.set i t ++ tm) (s.set i y ++ us) := by
  obtain ⟨f, hr, hf⟩ := I.own
  obtain ⟨g, h, h1, h2, h3, h4, h5⟩ := hr.split hl
  cases h2 with | @cons _ _ _ _ _ gt ht a1 a2 a3 a4 a5 =>
    by_cases c : i < r.length
    · obtain ⟨y0, g0, h0, b1, b2, b3, b4, b5, b6⟩ := h1.at (i := i) (List.getElem?_eq_getElem c)
      have k1 := b6 G H t y gt (Ex.refl G) (fun _ _ => rfl) a1 (fun b hb z => h5 b (b4 b z) (a3 b hb))
      refine I.same hf (a2.app k1 fun b hb z => hb.elim (fun q => a5 b q z) fun q => h5 b (b4 b q) (a4 b z)) fun b hb => ?_
      rcases hb with (hb | hb) | hb
      · exact h4 b (a3 b hb)
      · exact h3 b (b4 b hb)
      · exact h4 b (a4 b hb)
    · rw [List.set_eq_of_length_le (by omega), List.set_eq_of_length_le (by omega)]
      exact I.same hf (a2.app h1 fun b hb z => h5 b hb (a4 b z)) fun b hb => hb.elim (h3 b) fun z => h4 b (a4 b z)
def gdName (i : Nat) : GD := fun r t => some (r.set i t)
theorem dg_name {i : Nat} (hA : A i = true) : DG K A (gName i) (gdName i) := fun F P G H r s t v tm us r' a I hl p e Q q => by
  cases e
  exact q _ G H (Ex.refl G) (I.into hl i) (by rw [List.length_set, List.length_set]; exact hl) (by rw [List.length_set]) (p.set (a i hA))
def gdNil : GDs := fun r ts => if ts.isEmpty then some r else none
def gdCons (g : GD) (h : GDs) : GDs := fun r ts => match ts with
  | [] => none
  | t :: ts => (g r t).bind fun r1 => h r1 ts
theorem dgs_nil : DGs K A gNil gdNil := fun F P G H r s ts vs tm us r' a I hl lv p e Q q => by
  cases ts with
  | nil =>
    cases e
    cases vs with
    | nil => exact ⟨rfl, q s G H (Ex.refl G) (by simpa using I) hl rfl p⟩
    | cons _ _ => cases lv
  | cons _ _ => cases e
theorem dgs_cons {g : TG} {u : TGs} {h : GD} {h' : GDs} (h1 : DG K A g h) (h2 : DGs K A u h') : DGs K A (gCons g u) (gdCons h h') := fun F P G H r s ts vs tm us r' a I hl lv p e Q q => by
  cases ts with
  | nil => cases e
  | cons t ts =>
    cases vs with
    | nil => cases lv
    | cons v vs =>
      obtain ⟨r1, e1, e⟩ := Option.bind_eq_some_iff.mp (show (h r t).bind _ = some r' from e)
      refine ⟨_, _, rfl, ?_⟩
      exact h1 F P G H r s t v (ts ++ tm) (vs.map some ++ us) r1 a (by simpa using I) hl p e1 _ fun s1 G1 H1 x1 I1 l1 m1 p1 => h2 F P G1 H1 r1 s1 ts vs tm us r' a I1 l1 (Nat.succ.inj lv) p1 e Q fun s2 G2 H2 x2 I2 l2 m2 p2 => q s2 G2 H2 (x1.trans x2) I2 l2 (m2.trans m1) p2
def T.tupParts : T → Option (List T)
  | .tp l => some l
  | .fz (.tup l) => some (l.map .fz)
  | _ => none
def T.lstParts : T → Option (List T)
  | .ls l => some l
  | .fz (.lst l) => some (l.map .fz)
  | _ => none
theorem SI.parts {F : Fx} {G H : Hp} {r : Env} {x : List (Option V)} {t : T} {v : V} {tm : List T} {us : List (Option V)} {ps : List T} (I : SI K F G H (r ++ t :: tm) (x ++ some v :: us)) (hl : r.length = x.length) (e : t.tupParts = some ps) : ∃ a vs, v = .ref a ∧ SqT K H a vs ∧ ps.length = vs.length ∧ SI K F G H (r ++ (ps ++ tm)) (x ++ (vs.map some ++ us)) := by
  obtain ⟨f, hr, hf⟩ := I.own
  obtain ⟨g, h, h1, h2, h3, h4, h5⟩ := hr.split hl
  cases h2 with | @cons _ _ _ _ _ gt ht a1 a2 a3 a4 a5 =>
    have fin : ∀ (vs : List V) (gp : Fp), RtL K G H ps (vs.map some) gp → (∀ b, gp b → gt b) → SI K F G H (r ++ (ps ++ tm)) (x ++ (vs.map some ++ us)) := fun vs gp q w =>
      I.same hf ((a2.app q fun b hb z => a5 b (w b hb) z).app h1 fun b hb z => h5 b hb (z.elim (fun q => a3 b (w b q)) (a4 b))) fun b hb => hb.elim (h3 b) fun z => z.elim (fun q => h4 b (a3 b (w b q))) fun q => h4 b (a4 b q)
    cases t with
    | tp l =>
      cases e
      cases a1 with | tp c1 c2 c3 c4 => exact ⟨_, _, rfl, Or.inl (Or.inl c2), by have := c3.length; simpa using this, fin _ _ c3 fun b hb => (c4 b hb).1⟩
    | fz d => cases d with
      | tup l =>
        cases e
        cases a1 with | fz q => cases q with | tup c1 c2 => exact ⟨_, _, rfl, sub_t I.pl I.gh c1, by rw [List.length_map]; exact c2.length, fin _ _ (RtL.fzs c2) fun b hb => hb.elim⟩
      | _ => cases e
    | _ => cases e
theorem SI.partsL {F : Fx} {G H : Hp} {r : Env} {x : List (Option V)} {t : T} {v : V} {tm : List T} {us : List (Option V)} {ps : List T} (I : SI K F G H (r ++ t :: tm) (x ++ some v :: us)) (hl : r.length = x.length) (e : t.lstParts = some ps) : ∃ a vs, v = .ref a ∧ SqL K H a vs ∧ ps.length = vs.length ∧ SI K F G H (r ++ (ps ++ tm)) (x ++ (vs.map some ++ us)) := by
  obtain ⟨f, hr, hf⟩ := I.own
  obtain ⟨g, h, h1, h2, h3, h4, h5⟩ := hr.split hl
  cases h2 with | @cons _ _ _ _ _ gt ht a1 a2 a3 a4 a5 =>
    have fin : ∀ (vs : List V) (gp : Fp), RtL K G H ps (vs.map some) gp → (∀ b, gp b → gt b) → SI K F G H (r ++ (ps ++ tm)) (x ++ (vs.map some ++ us)) := fun vs gp q w =>
      I.same hf ((a2.app q fun b hb z => a5 b (w b hb) z).app h1 fun b hb z => h5 b hb (z.elim (fun q => a3 b (w b q)) (a4 b))) fun b hb => hb.elim (h3 b) fun z => z.elim (fun q => h4 b (a3 b (w b q))) fun q => h4 b (a4 b q)
    cases t with
    | ls l =>
      cases e
      cases a1 with | ls c1 c2 c3 c4 => exact ⟨_, _, rfl, Or.inl (Or.inl c2), by have := c3.length; simpa using this, fin _ _ c3 fun b hb => (c4 b hb).1⟩
    | fz d => cases d with
      | lst l =>
        cases e
        cases a1 with | fz q => cases q with | lst c1 c2 => exact ⟨_, _, rfl, Or.inl (Or.inl (sub_ex I.gh c1)), by rw [List.length_map]; exact c2.length, fin _ _ (RtL.fzs c2) fun b hb => hb.elim⟩
      | _ => cases e
    | _ => cases e
def gdTup (n : Nat) (h : GDs) : GD := fun r t => t.tupParts.bind fun ps => if ps.length = n then h r ps else none
def gdLst (n : Nat) (h : GDs) : GD := fun r t => t.lstParts.bind fun ps => if ps.length = n then h r ps else none
theorem dg_tup {n : Nat} {t : TGs} {h : GDs} (ht : DGs K A t h) : DG K A (gTup K n t) (gdTup n h) := fun F P G H r s t v tm us r' a I hl p e Q q => by
  obtain ⟨ps, e1, e⟩ := Option.bind_eq_some_iff.mp e
  split at e
  · rename_i c
    obtain ⟨b, vs, rfl, z1, z2, J⟩ := I.parts hl e1
    exact ⟨b, vs, rfl, z1, by omega, ht F P G H r s ps vs tm us r' a J hl z2 p e Q q⟩
  · cases e
theorem dg_lst {n : Nat} {t : TGs} {h : GDs} (ht : DGs K A t h) : DG K A (gLst K n t) (gdLst n h) := fun F P G H r s t v tm us r' a I hl p e Q q => by
  obtain ⟨ps, e1, e⟩ := Option.bind_eq_some_iff.mp e
  split at e
  · rename_i c
    obtain ⟨b, vs, rfl, z1, z2, J⟩ := I.partsL hl e1
    exact ⟨b, vs, rfl, z1, by omega, ht F P G H r s ps vs tm us r' a J hl z2 p e Q q⟩
  · cases e
/-- target = value -/
def dAsg (f : XD) (g : GD) : SD := fun r => (f r).bind fun p => match p.1 with
  | .inl w => (mv p.2 w).bind fun q => (g q.2 q.1).bind fun r2 => some (.nx r2)
  | .inr c => some (.ex c p.2)
theorem ds_asg {te : TE} {f : XD} {t : TG} {g : GD} (h : DX K X te f) (hg : DG K A t g) : DS K A X (tAsg te t) (dAsg f g) := fun F P G H r s o a I p e E q => by
  obtain ⟨⟨z, r1⟩, e1, e⟩ := Option.bind_eq_some_iff.mp e
  cases z with
  | inl w =>
    obtain ⟨⟨t1, r2⟩, e2, e⟩ := Option.bind_eq_some_iff.mp e
    obtain ⟨r3, e3, e⟩ := Option.bind_eq_some_iff.mp e
    cases e
    refine h F G H r s (.inl w) r1 I e1 _ fun v G1 H1 x1 I1 l1 hw => ?_
    obtain ⟨G2, x2, I2, l2⟩ := mv_ok (tm := []) (us := []) (by simpa only [List.nil_append] using I1) l1 hw e2
    exact hg F P G2 H1 r2 s t1 v [] [] r3 a I2 l2 p e3 _ fun s' G3 H3 x3 I3 l3 m3 p3 => q s' G3 H3 ((x1.trans x2).trans x3) (by simpa only [List.append_nil] using I3) p3
  | inr c => cases e; exact h F G H r s (.inr c) r1 I e1 _ fun G1 H1 x1 I1 => q s G1 H1 x1 I1 p

/-! ### loops -/
def WalkD (K : PySem.W.Frag) (J : It) (l : List D) (G0 : Hp) : Prop := ∀ F G H r x, Ex G0 G → SI K F G H r x → ∀ i : Nat,
  (∀ d, l[i]? = some d → J.go i H ∧ ∀ y H', J.yld i H y H' → ∃ G', Ex G G' ∧ SI K F G' H' r x ∧ Rp K G' d y) ∧ (l.length ≤ i → J.stop i H)
abbrev ID := Env → Option (List D × Env)
def DI (K : PySem.W.Frag) (wi : TI) (f : ID) : Prop := ∀ F G H r s tm us l r', SI K F G H (r ++ tm) (s ++ us) → r.length = s.length → f r = some (l, r') → ∀ R : It → Hp → Prop, (∀ J G' H', Ex G G' → SI K F G' H' (r' ++ tm) (s ++ us) → r'.length = s.length → WalkD K J l G' → R J H') → wi s H R
def loopD (h : GD) (body : SD) : List D → Env → Option O
  | [], r => some (.nx r)
  | d :: l, r => (h r (.fz d)).bind fun r1 => (body r1).bind fun o => match o with
    | .nx r2 => loopD h body l r2
    | .ct r2 => loopD h body l r2
    | .bk r2 => some (.nx r2)
    | .rt w r2 => some (.rt w r2)
    | .ex c r2 => some (.ex c r2)
def dFor (f : ID) (h : GD) (body : SD) : SD := fun r => (f r).bind fun p => loopD h body p.1 p.2
theorem ds_for {wi : TI} {g : TG} {tb : TS} {f : ID} {h : GD} {body : SD} (hi : DI K wi f) (hg : DG K A g h) (hb : DS K A X tb body) : DS K A X (tFor wi g tb) (dFor f h body) := fun F P G H r s o a I p e E q => by
  obtain ⟨⟨l, r1⟩, e1, e⟩ := Option.bind_eq_some_iff.mp e
  refine hi F G H r s [] [] l r1 (by simpa only [List.append_nil] using I) I.len e1 _ fun J G1 H1 x1 I1 l1 hJ => ?_
  refine ⟨fun i m s' H' => i ≤ l.length ∧ m = l.length - i ∧ ∃ G' r', Ex G1 G' ∧ SI K F G' H' r' s' ∧ Par P s' ∧ loopD h body (l.drop i) r' = some o, ⟨l.length, Nat.zero_le _, rfl, G1, r1, Ex.refl G1, by simpa only [List.append_nil] using I1, p, e⟩, ?_⟩
  rintro i m s' H' ⟨hi, rfl, G', r', x', I', p', e'⟩
  by_cases c : i < l.length
  · have hd : l[i]? = some l[i] := List.getElem?_eq_getElem c
    obtain ⟨go, yl⟩ := (hJ F G' H' r' s' x' I' i).1 _ hd
    rw [List.drop_eq_getElem_cons c] at e'
    obtain ⟨r2, e2, e3⟩ := Option.bind_eq_some_iff.mp (show (h r' (.fz l[i])).bind _ = some o from e')
    obtain ⟨o2, e4, e5⟩ := Option.bind_eq_some_iff.mp e3
    refine Or.inr ⟨go, fun s3 H3 => ∃ G3 r3, Ex G1 G3 ∧ SI K F G3 H3 r3 s3 ∧ Par P s3 ∧ loopD h body (l.drop (i + 1)) r3 = some o, fun s3 H3 ⟨G3, r3, x3, I3, p3, e6⟩ => ⟨l.length - (i + 1), by omega, c, rfl, G3, r3, x3, I3, p3, e6⟩, fun x H2 y => ?_⟩
    obtain ⟨G2, x2, I2, q2⟩ := yl x H2 y
    refine hg F P G2 H2 r' s' (.fz l[i]) x [] [] r2 a (by simpa using I2.fzs (l := [l[i]]) (vs := [x]) (.cons q2 .nil)) I2.len p' e2 _ fun s3 G3 H3 x3 I3 l3 m3 p3 => ?_
    have xx := (x'.trans x2).trans x3
    refine hb F P G3 H3 r2 s3 o2 a (by simpa only [List.append_nil] using I3) p3 e4 _ ?_
    cases o2 with
    | nx r4 => exact fun s4 G4 H4 x4 I4 p4 => ⟨G4, r4, xx.trans x4, I4, p4, e5⟩
    | ct r4 => exact fun s4 G4 H4 x4 I4 p4 => ⟨G4, r4, xx.trans x4, I4, p4, e5⟩
    | bk r4 => cases e5; exact fun s4 G4 H4 x4 I4 p4 => q s4 G4 H4 ((x1.trans xx).trans x4) I4 p4
    | rt w r4 => cases e5; exact fun v s4 G4 H4 x4 I4 l4 w4 p4 => q v s4 G4 H4 ((x1.trans xx).trans x4) I4 l4 w4 p4
    | ex w r4 => cases e5; exact fun s4 G4 H4 x4 I4 p4 => q s4 G4 H4 ((x1.trans xx).trans x4) I4 p4
  · have ei : i = l.length := by omega
    subst ei
    rw [List.drop_length] at e'
    cases e'
    exact Or.inl ⟨(hJ F G' H' r' s' x' I' l.length).2 (Nat.le_refl _), q s' G' H' (x1.trans x') I' p'⟩
def whileD (t : XB) (body : SD) : Nat → Env → Option O
  | 0, _ => none
  | n + 1, r => (t r).bind fun p => match p.1 with
    | .inl true => (body p.2).bind fun o => match o with
      | .nx r2 => whileD t body n r2
      | .ct r2 => whileD t body n r2
      | .bk r2 => some (.nx r2)
      | .rt w r2 => some (.rt w r2)
      | .ex c r2 => some (.ex c r2)
    | .inl false => some (.nx p.2)
    | .inr c => some (.ex c p.2)
def dWhile (n : Env → Nat) (t : XB) (body : SD) : SD := fun r => whileD t body (n r) r
theorem ds_while {n : Env → Nat} {c : TT} {tb : TS} {t : XB} {body : SD} (hc : DTX K X c t) (hb : DS K A X tb body) : DS K A X (tWhile c tb) (dWhile n t body) := fun F P G H r s o a I p e E q => by
  refine ⟨fun m s' H' => ∃ G' r', Ex G G' ∧ SI K F G' H' r' s' ∧ Par P s' ∧ whileD t body m r' = some o, ⟨n r, G, r, Ex.refl G, I, p, e⟩, ?_⟩
  rintro m s' H' ⟨G', r', x', I', p', e'⟩
  cases m with
  | zero => cases e'
  | succ m =>
    obtain ⟨⟨b, r1⟩, e1, e2⟩ := Option.bind_eq_some_iff.mp (show (t r').bind _ = some o from e')
    cases b with
    | inr c =>
      cases e2
      exact hc F G' H' r' s' (.inr c) r1 I' e1 _ fun G1 H1 x1 I1 => q s' G1 H1 (x'.trans x1) I1 p'
    | inl b =>
      refine hc F G' H' r' s' (.inl b) r1 I' e1 _ fun G1 H1 x1 I1 => ?_
      cases b with
      | false => cases e2; exact q s' G1 H1 (x'.trans x1) I1 p'
      | true =>
        obtain ⟨o2, e3, e4⟩ := Option.bind_eq_some_iff.mp (show (body r1).bind _ = some o from e2)
        refine ⟨fun s3 H3 => ∃ G3 r3, Ex G G3 ∧ SI K F G3 H3 r3 s3 ∧ Par P s3 ∧ whileD t body m r3 = some o, fun s3 H3 h3 => ⟨m, Nat.lt_succ_self m, h3⟩, ?_⟩
        have xx := x'.trans x1
        refine hb F P G1 H1 r1 s' o2 a I1 p' e3 _ ?_
        cases o2 with
        | nx r4 => exact fun s4 G4 H4 x4 I4 p4 => ⟨G4, r4, xx.trans x4, I4, p4, e4⟩
        | ct r4 => exact fun s4 G4 H4 x4 I4 p4 => ⟨G4, r4, xx.trans x4, I4, p4, e4⟩
        | bk r4 => cases e4; exact fun s4 G4 H4 x4 I4 p4 => q s4 G4 H4 (xx.trans x4) I4 p4
        | rt w r4 => cases e4; exact fun v s4 G4 H4 x4 I4 l4 w4 p4 => q v s4 G4 H4 (xx.trans x4) I4 l4 w4 p4
        | ex w r4 => cases e4; exact fun s4 G4 H4 x4 I4 p4 => q s4 G4 H4 (xx.trans x4) I4 p4
/-- over a list or a tuple -/
def dItems (f : FD) : ID := fun r => (f r).bind fun x => match x.1 with
  | .lst l => some (l, x.2)
  | .tup l => some (l, x.2)
  | _ => none
def dItemsL (f : FD) : ID := fun r => (f r).bind fun x => match x.1 with
  | .lst l => some (l, x.2)
  | _ => none
def dItemsT (f : FD) : ID := fun r => (f r).bind fun x => match x.1 with
  | .tup l => some (l, x.2)
  | _ => none
theorem walk_l {a : Addr} {l : List D} {xs : List V} {G0 : Hp} (pg : Plain G0) (h : SqL K G0 a xs) (q : RpL K G0 l xs) : WalkD K (Itl K a) l G0 := fun F G H r x xg I i => by
  have hH : SqL K H a xs := sub_l I.pl I.gh (ex_l xg h)
  refine ⟨fun d hd => ?_, fun hl => ⟨xs, hH, q.length ▸ hl⟩⟩
  obtain ⟨v, hv, hq⟩ := q.get hd
  refine ⟨⟨xs, v, hH, hv⟩, fun y H' ⟨e1, e2⟩ => ?_⟩
  subst e1
  have := e2 xs hH
  rw [hv] at this
  cases this
  exact ⟨G, Ex.refl G, I, hq.mono xg⟩
theorem walk_t {a : Addr} {l : List D} {xs : List V} {G0 : Hp} (pg : Plain G0) (h : SqT K G0 a xs) (q : RpL K G0 l xs) : WalkD K (Itt K a) l G0 := fun F G H r x xg I i => by
  have hH : SqT K H a xs := sub_t I.pl I.gh (ex_t xg h)
  refine ⟨fun d hd => ?_, fun hl => ⟨xs, hH, q.length ▸ hl⟩⟩
  obtain ⟨v, hv, hq⟩ := q.get hd
  refine ⟨⟨xs, v, hH, hv⟩, fun y H' ⟨e1, e2⟩ => ?_⟩
  subst e1
  have := e2 xs hH
  rw [hv] at this
  cases this
  exact ⟨G, Ex.refl G, I, hq.mono xg⟩
theorem di_list {te : TE} {f : FD} (h : DF K te f) : DI K (iList K te) (dItemsL f) := fun F G H r s tm us l r' I hl e R q => by
  obtain ⟨⟨d, r1⟩, e1, e⟩ := Option.bind_eq_some_iff.mp e
  cases d with
  | lst l' =>
    cases e
    refine h F G H r s tm us _ r1 I hl e1 _ fun v G1 H1 x1 I1 l1 q2 => ?_
    cases q2 with | lst h1 h2 => exact ⟨_, rfl, ⟨_, Or.inl (Or.inl (sub_ex I1.gh h1))⟩, q _ G1 H1 x1 I1 l1 (walk_l I1.pl (Or.inl (Or.inl h1)) h2)⟩
  | _ => cases e
theorem di_tup {te : TE} {f : FD} (h : DF K te f) : DI K (iTup K te) (dItemsT f) := fun F G H r s tm us l r' I hl e R q => by
  obtain ⟨⟨d, r1⟩, e1, e⟩ := Option.bind_eq_some_iff.mp e
  cases d with
  | tup l' =>
    cases e
    refine h F G H r s tm us _ r1 I hl e1 _ fun v G1 H1 x1 I1 l1 q2 => ?_
    cases q2 with | tup h1 h2 => exact ⟨_, rfl, ⟨_, sub_t I1.pl I1.gh h1⟩, q _ G1 H1 x1 I1 l1 (walk_t I1.pl h1 h2)⟩
  | _ => cases e
def upto (lo : Int) (n : Nat) : List D := (List.range n).map fun (i : Nat) => .int (lo + (i : Int))
theorem walk_r {lo : Int} {n : Nat} {G0 : Hp} : WalkD K (Itr lo n) (upto lo n) G0 := fun F G H r x xg I i => by
  unfold upto
  refine ⟨fun d hd => ?_, fun hl => by rw [List.length_map, List.length_range] at hl; exact hl⟩
  rw [List.getElem?_map] at hd
  by_cases c : i < n
  · rw [List.getElem?_range c] at hd
    cases hd
    refine ⟨c, fun y H' ⟨e1, e2⟩ => ?_⟩
    subst e1 e2
    exact ⟨G, Ex.refl G, I, .int _⟩
  · rw [List.getElem?_eq_none (by rw [List.length_range]; omega)] at hd
    cases hd
def dRange1 (f : FDs) : ID := fun r => (f r).bind fun p => match p.1 with
  | [.int j] => if -(2 ^ 62) ≤ j ∧ j < 2 ^ 62 then some (upto 0 j.toNat, p.2) else none
  | _ => none
def dRange2 (f : FDs) : ID := fun r => (f r).bind fun p => match p.1 with
  | [.int i, .int j] => if -(2 ^ 62) ≤ i ∧ i < 2 ^ 62 ∧ -(2 ^ 62) ≤ j ∧ j < 2 ^ 62 then some (upto i (j - i).toNat, p.2) else none
  | _ => none
theorem di_range1 {ta : TA} {f : FDs} (h : DFs K ta f) : DI K (iRng1 ta) (dRange1 f) := fun F G H r s tm us l r' I hl e R q => by
  obtain ⟨⟨ds, r1⟩, e1, e⟩ := Option.bind_eq_some_iff.mp e
  dsimp only at e
  split at e
  · rename_i j
    split at e
    · rename_i c
      cases e
      refine h F G H r s tm us _ _ I hl e1 _ fun vs G1 H1 x1 I1 l1 hv => ?_
      cases hv with | cons h1 h2 =>
        cases h2
        cases h1
        exact ⟨j, rfl, c.1, c.2, q _ G1 H1 x1 I1 l1 walk_r⟩
    · cases e
  · cases e
theorem di_range2 {ta : TA} {f : FDs} (h : DFs K ta f) : DI K (iRng2 ta) (dRange2 f) := fun F G H r s tm us l r' I hl e R q => by
  obtain ⟨⟨ds, r1⟩, e1, e⟩ := Option.bind_eq_some_iff.mp e
  dsimp only at e
  split at e
  · rename_i i j
    split at e
    · rename_i c
      cases e
      refine h F G H r s tm us _ _ I hl e1 _ fun vs G1 H1 x1 I1 l1 hv => ?_
      cases hv with | cons h1 h2 => cases h2 with | cons h2 h3 =>
        cases h3
        cases h1
        cases h2
        exact ⟨i, j, rfl, c, q _ G1 H1 x1 I1 l1 walk_r⟩
    · cases e
  · cases e
end
end Q

set_option Elab.async false
set_option linter.all false
set_option maxRecDepth 100000
set_option maxHeartbeats 2000000
namespace Q
open PySem PySem.Spec PyProof.Rows L2
/-! ### defs -/
inductive Res where
  | ret (t : T) | exc (c : Addr)
abbrev FnT := List T → Option (Res × List T)
structure Entry (K : PySem.W.Frag) (G H : Hp) (ps : List T) (vs : List V) (f : Fp) : Prop where
  rt : RtL K G H ps (vs.map some) f
  fo : ∀ b, f b → G b = none ∧ H b ≠ none
  gh : Sub G H
  pl : Plain G
structure End (K : PySem.W.Frag) (G H : Hp) (f : Fp) (ts : List T) (xs : List (Option V)) (G' H' : Hp) : Prop where
  gg : Ex G G'
  gh : Sub G' H'
  pl : Plain G'
  keep : ∀ a o, H a = some o → ¬ f a → H' a = some o
  lv : ∀ a, H a ≠ none → H' a ≠ none
  gn : ∀ a o, G' a = some o → G a = some o ∨ f a ∨ H a = none
  rt : ∃ f' : Fp, RtL K G' H' ts xs f' ∧ ∀ b, f' b → G' b = none ∧ H' b ≠ none ∧ (f b ∨ H b = none)
def ResOk (K : PySem.W.Frag) (G H : Hp) (f : Fp) (vs : List V) (ps' : List T) (Q : VK) (E : XK) : Res → Prop
  | .ret t => ∀ v G' H', End K G H f (ps' ++ [t]) (vs.map some ++ [some v]) G' H' → Q v H'
  | .exc c => ∀ G' H', End K G H f ps' (vs.map some) G' H' → E (.ref c) none H'
def spD (K : PySem.W.Frag) (n : Nat) (fn : FnT) : Sp := fun vs H Q E => vs.length = n ∧ ∃ G f ps z ps', fn ps = some (z, ps') ∧ Entry K G H ps vs f ∧ ResOk K G H f vs ps' Q E z
def keepP : T → T
  | .fz d => .fz d
  | _ => .un
def outP : List Bool → List T → Env → List T
  | b :: fx, p :: ps, t :: r => (if b = true then t else keepP p) :: outP fx ps r
  | _, _, _ => []
def retW (n : Nat) (r : Env) : W → Option (T × Env)
  | .sh d => some (.fz d, r)
  | .nw t => some (t, r)
  | .pl i => if i < n then (share r (.pl i)).bind fun p => some (.fz p.1, p.2) else match r[i]? with
    | some .un => none
    | none => none
    | some t => some (t, r.set i .un)
def fnD (n N : Nat) (fx : List Bool) (body : SD) : FnT := fun ps => if ps.length = n then (body (ps ++ List.replicate (N - n) .un)).bind fun o => match o with
    | .nx r => if n ≤ r.length then some (.ret (.fz .non), outP fx ps r) else none
    | .rt w r => (retW n r w).bind fun p => if n ≤ p.2.length then some (.ret p.1, outP fx ps p.2) else none
    | .ex c r => if n ≤ r.length then some (.exc c, outP fx ps r) else none
    | _ => none
  else none
section
variable {K : PySem.W.Frag}
theorem SI.moved {F : Fx} {G H : Hp} {r : Env} {s : L2.St} {tm : List T} {us : List (Option V)} {i : Nat} {t : T} {v : V} (I : SI K F G H (r ++ tm) (s ++ us)) (hl : r.length = s.length) (n : r[i]? = some t) (hv : s[i]? = some (some v)) : SI K F G H (r.set i .un ++ (tm ++ [t])) (s ++ (us ++ [some v])) := by
  have hi : i < r.length := (List.getElem?_eq_some_iff.mp n).1
  obtain ⟨f, hr, hf⟩ := I.own
  obtain ⟨y, g, h, b1, b2, b3, b4, b5, b6⟩ := hr.at (i := i) (by rw [List.getElem?_append_left hi]; exact n)
  have k1 := b6 G H .un y (fun _ => False) (Ex.refl G) (fun _ _ => rfl) .un (fun b hb => hb.elim)
  rw [set_same b1, List.set_append_left _ _ hi] at k1
  rw [List.getElem?_append_left (by omega), hv] at b1
  cases b1
  have k2 : RtL K G H [t] [some v] g := .cons b2 (h := fun _ => False) .nil (fun b hb => hb) (fun b hb => hb.elim) (fun b _ z => z)
  have k3 := k2.app k1 (fun b hb z => hb.elim (fun q => q) fun q => b5 b z q)
  simp only [← List.append_assoc]
  exact I.same hf k3 fun b hb => hb.elim (fun z => z.elim (fun q => q.elim) (b4 b)) (b3 b)
theorem keepP_rt {G G' H H' : Hp} {t : T} {x : Option V} {f g : Fp} (h : Rt K G H t x f) (e : Ex G G') : Rt K G' H' (keepP t) x g := by
  cases h with
  | fz q => exact .fz (q.mono e)
  | _ => exact .un
theorem outP_ok {G G' H H' : Hp} (e : Ex G G') : ∀ {fx : List Bool} {ps : List T} {vs : List V} {f f' : Fp} {r : Env} {s : L2.St}, fx.length = ps.length → ps.length ≤ r.length → RtL K G H ps (vs.map some) f → RtL K G' H' r s f' → (∀ (j : Nat) (v : V), fx[j]? = some true → vs[j]? = some v → s[j]? = some (some v)) → RtL K G' H' (outP fx ps r) (vs.map some) f' := by
  intro fx
  induction fx with
  | nil =>
    intro ps vs f f' r s l1 l2 h1 h2 hp
    cases ps with
    | nil => cases vs with
      | nil => exact .nil
      | cons _ _ => cases h1
    | cons _ _ => cases l1
  | cons b fx ih =>
    intro ps vs f f' r s l1 l2 h1 h2 hp
    cases ps with
    | nil => cases l1
    | cons p ps =>
      cases r with
      | nil => cases l2
      | cons t r =>
        cases vs with
        | nil => cases h1
        | cons v vs =>
          cases h1 with | cons a1 a2 a3 a4 a5 =>
            cases h2 with | @cons _ x _ xs _ g h b1 b2 b3 b4 b5 =>
              have rest := ih (Nat.succ.inj l1) (Nat.le_of_succ_le_succ l2) a2 b2 fun j v e1 e2 => by simpa using hp (j + 1) v (by simpa using e1) (by simpa using e2)
              refine .cons (g := g) (h := h) ?_ rest b3 b4 b5
              cases b with
              | true =>
                have := hp 0 v rfl rfl
                simp at this
                subst this
                exact b1
              | false => exact keepP_rt a1 e
theorem start_get {N : List Str} {vs : List V} {i : Nat} {v : V} (e : vs[i]? = some v) : (L2.start N vs)[i]? = some (some v) := by
  unfold L2.start
  have hi : i < vs.length := (List.getElem?_eq_some_iff.mp e).1
  rw [List.getElem?_append_left (by rw [List.length_map]; exact hi), List.getElem?_map, e]
  rfl
theorem RtL.uns {G H : Hp} : ∀ {n : Nat} {x : List (Option V)}, x.length = n → RtL K G H (List.replicate n .un) x (fun _ => False) := by
  intro n
  induction n with
  | zero => intro x h; cases x with
    | nil => exact .nil
    | cons _ _ => cases h
  | succ n ih => intro x h; cases x with
    | nil => cases h
    | cons x xs => exact .cons (g := fun _ => False) .un (ih (Nat.succ.inj h)) (fun b hb => hb) (fun b hb => hb) (fun b hb => hb.elim)
theorem entry_si {G H : Hp} {ps : List T} {vs : List V} {N : List Str} {f : Fp} (E : Entry K G H ps vs f) (hN : vs.length ≤ N.length) : SI K ⟨H, G, f⟩ G H (ps ++ List.replicate (N.length - ps.length) .un) (L2.start N vs) := by
  have hl := E.rt.length
  rw [List.length_map] at hl
  refine ⟨⟨_, (RtL.uns (K := K) (G := G) (H := H) (n := N.length - ps.length) (x := List.replicate (N.length - vs.length) none) (by rw [List.length_replicate, hl])).app E.rt (fun b _ z => z), fun b hb => ?_⟩, fun a o e _ => e, fun a c => (E.fo a c).2, Ex.refl G, E.gh, E.pl, fun a o e => Or.inl e⟩
  rcases hb with z | z
  · exact ⟨(E.fo b z).1, (E.fo b z).2, Or.inr z⟩
  · exact z.elim
theorem si_end {G H G' H' : Hp} {f : Fp} {ts : List T} {xs : List (Option V)} {r : Env} {x : List (Option V)} (I : SI K ⟨H, G, f⟩ G' H' r x) (lv : ∀ a, H a ≠ none → H' a ≠ none) {f' g : Fp} (hr : RtL K G' H' r x g) (hg : Own ⟨H, G, f⟩ G' H' g) (ht : RtL K G' H' ts xs f') (w : ∀ b, f' b → g b) : End K G H f ts xs G' H' := by
  refine ⟨I.g0, I.gh, I.pl, fun a o e c => I.keep a o e c, lv, fun a o e => ?_, f', ht, fun b hb => ?_⟩
  · rcases I.gn a o e with q | q | q
    · exact Or.inl q
    · exact Or.inr (Or.inr q)
    · exact Or.inr (Or.inl q)
  · obtain ⟨z1, z2, z3⟩ := hg b (w b hb)
    exact ⟨z1, z2, z3.elim Or.inr Or.inl⟩
theorem SI.lv {F : Fx} {G H : Hp} {r : Env} {x : List (Option V)} (I : SI K F G H r x) : ∀ a, F.B a ≠ none → H a ≠ none := fun a h z => by
  exact h (I.Bnone z)
theorem fnD_run {g : SD} {t : TS} {n : Nat} {N : List Str} {fx : List Bool} {G H : Hp} {ps ps' : List T} {vs : List V} {z : Res} {Q : VK} {E : XK} {f : Fp} (hd : DS K (fun i => !(fx[i]? == some true)) (fun c d _ H => E c d H) t g) (hN : n ≤ N.length) (hfx : fx.length = n) (hv : vs.length = n) (e : fnD n N.length fx g ps = some (z, ps')) (En : Entry K G H ps vs f) (q : ResOk K G H f vs ps' Q E z) :
    t { nx := fun _ H' => Q .non H', rt := Q } (L2.start N vs) H := by
  unfold fnD at e
  split at e
  · rename_i hl
    obtain ⟨o, e1, e⟩ := Option.bind_eq_some_iff.mp e
    rw [← hl] at e1
    have out : ∀ {G' H' : Hp} {r : Env} {s' : L2.St} {f' : Fp}, Ex G G' → RtL K G' H' r s' f' → n ≤ r.length → Par (fun i => if fx[i]? = some true then (vs[i]?).map some else none) s' → RtL K G' H' (outP fx ps r) (vs.map some) f' := fun {G' H' r s' f'} xg hr hls p =>
      outP_ok xg (by omega) (by omega) En.rt hr fun j v z1 z2 => p j (some v) (by dsimp only; rw [if_pos z1, z2]; rfl)
    have hA : ∀ i : Nat, (!(fx[i]? == some true)) = true → (if fx[i]? = some true then (vs[i]?).map some else none) = none := fun i h => by
      rw [if_neg]
      intro z
      rw [z] at h
      exact absurd h (by decide)
    have P0 : Par (fun i => if fx[i]? = some true then (vs[i]?).map some else none) (L2.start N vs) := fun i v h => by
      dsimp only at h
      split at h
      · obtain ⟨u, z1, z2⟩ := Option.map_eq_some_iff.mp h
        subst z2
        exact start_get z1
      · cases h
    refine hd ⟨H, G, f⟩ _ G H _ _ o hA (entry_si En (by omega)) P0 e1 _ ?_
    cases o with
    | nx r =>
      dsimp only at e
      split at e
      · rename_i c
        cases e
        intro s' G' H' xg I p
        obtain ⟨h, hr, ho⟩ := I.own
        have k1 := out xg hr c p
        have k2 : RtL K G' H' [.fz .non] [some .non] (fun _ => False) := RtL.fzs (l := [.non]) (vs := [.non]) (.cons .non .nil)
        exact q _ G' H' (si_end I I.lv hr ho (k2.app k1 fun b _ z => z) fun b hb => hb.elim (fun z => z) fun z => z.elim)
      · cases e
    | ex c r =>
      dsimp only at e
      split at e
      · rename_i c
        cases e
        intro s' G' H' xg I p
        obtain ⟨h, hr, ho⟩ := I.own
        exact q G' H' (si_end I I.lv hr ho (out xg hr c p) fun b hb => hb)
      · cases e
    | rt w r =>
      obtain ⟨⟨t1, r1⟩, e2, e⟩ := Option.bind_eq_some_iff.mp e
      dsimp only at e
      split at e
      · rename_i c
        cases e
        intro v s' G' H' xg I hl2 hw p
        have fin : ∀ G2, Ex G' G2 → SI K ⟨H, G, f⟩ G2 H' (r1 ++ [t1]) (s' ++ [some v]) → r1.length = s'.length → Q v H' := fun G2 x2 J l2 => by
          obtain ⟨h, hr, ho⟩ := J.own
          obtain ⟨g1, g2, k1, k2, k3, k4, k5⟩ := hr.split l2
          exact q v G2 H' (si_end J J.lv hr ho (k2.app (out (xg.trans x2) k1 c p) k5) fun b hb => hb.elim (k3 b) (k4 b))
        cases w with
        | sh d => cases e2; exact fin G' (Ex.refl G') (by simpa using fz_in (tm := []) (us := []) (by simpa only [W.tm, W.vl, List.append_nil] using I) hw) hl2
        | nw t => cases e2; exact fin G' (Ex.refl G') (by simpa only [W.tm, W.vl] using I) hl2
        | pl i =>
          unfold retW at e2
          dsimp only at e2
          split at e2
          · obtain ⟨⟨d, r2⟩, e3, e2⟩ := Option.bind_eq_some_iff.mp e2
            cases e2
            obtain ⟨G2, x2, I2, l2, q2⟩ := share_ok (tm := []) (us := []) (v := v) (by simpa only [W.tm, W.vl, List.append_nil] using I) hl2 hw e3
            exact fin G2 x2 (by simpa using fz_in I2 q2) l2
          · split at e2
            · cases e2
            · cases e2
            · rename_i t hu hr
              cases e2
              exact fin G' (Ex.refl G') (by simpa using SI.moved (tm := []) (us := []) (by simpa only [W.tm, W.vl, List.append_nil] using I) hl2 hr hw) (by rw [List.length_set]; exact hl2)
      · cases e
    | bk r => cases e
    | ct r => cases e
  · cases e
/-! ### calls -/
abbrev AD := Env → Option (List W × Env)
def tmL : List W → List T
  | [] => []
  | w :: ws => w.tm ++ tmL ws
def vlL : List W → List V → List (Option V)
  | w :: ws, v :: vs => w.vl v ++ vlL ws vs
  | _, _ => []
def WVs (K : PySem.W.Frag) (G : Hp) (s : L2.St) : List W → List V → Prop
  | [], [] => True
  | w :: ws, v :: vs => WV K G s w v ∧ WVs K G s ws vs
  | _, _ => False
def DA (K : PySem.W.Frag) (ta : TA) (f : AD) : Prop := ∀ F G H r s tm us ws r', SI K F G H (r ++ tm) (s ++ us) → r.length = s.length → f r = some (ws, r') → ∀ Q : List V → Hp → Prop, (∀ vs G' H', Ex G G' → SI K F G' H' (r' ++ (tm ++ tmL ws)) (s ++ (us ++ vlL ws vs)) → r'.length = s.length → WVs K G' s ws vs → Q vs H') → ta s H Q
theorem WV.mono {G G' : Hp} {s : L2.St} {w : W} {v : V} (h : WV K G s w v) (x : Ex G G') : WV K G' s w v := by
  cases w with
  | sh d => exact Rp.mono (show Rp K G d v from h) x
  | nw t => trivial
  | pl i => exact h
def daNil : AD := fun r => some ([], r)
def daCons (f : ED) (g : AD) : AD := fun r => (f r).bind fun p => (g p.2).bind fun q => some (p.1 :: q.1, q.2)
theorem da_nil : DA K tNil daNil := fun F G H r s tm us ws r' I hl e Q q => by
  cases e
  exact q [] G H (Ex.refl G) (by simpa only [tmL, vlL, List.append_nil] using I) hl trivial
theorem da_cons {te : TE} {ta : TA} {f : ED} {g : AD} (h1 : DE K te f) (h2 : DA K ta g) : DA K (tCons te ta) (daCons f g) := fun F G H r s tm us ws r' I hl e Q q => by
  obtain ⟨⟨w, r1⟩, e1, e⟩ := Option.bind_eq_some_iff.mp e
  obtain ⟨⟨ws', r2⟩, e2, e⟩ := Option.bind_eq_some_iff.mp e
  cases e
  refine h1 F G H r s tm us w r1 I hl e1 _ fun v G1 H1 x1 I1 l1 hw => h2 F G1 H1 r1 s (tm ++ w.tm) (us ++ w.vl v) ws' r2 I1 l1 e2 _ fun vs G2 H2 x2 I2 l2 hs => q (v :: vs) G2 H2 (x1.trans x2) ?_ l2 ⟨hw.mono x2, hs⟩
  simpa only [tmL, vlL, List.append_assoc] using I2
def pars (r : Env) : List W → Option (List T × Env)
  | [] => some ([], r)
  | .sh d :: ws => (pars r ws).bind fun p => some (.fz d :: p.1, p.2)
  | .nw t :: ws => (pars r ws).bind fun p => some (t :: p.1, p.2)
  | .pl i :: ws => match r[i]? with
    | some (.fz d) => (pars r ws).bind fun p => some (.fz d :: p.1, p.2)
    | some .un => none
    | none => none
    | some t => (pars (r.set i .un) ws).bind fun p => some (t :: p.1, p.2)
theorem pars_ok {G H : Hp} {s : L2.St} {tm : List T} {us : List (Option V)} : ∀ {ws : List W} {vs : List V} {r r' : Env} {ps : List T} {fa fb : Fp}, r.length = s.length → RtL K G H (r ++ tm) (s ++ us) fa → RtL K G H (tmL ws) (vlL ws vs) fb → (∀ b, fa b → ¬ fb b) → WVs K G s ws vs → pars r ws = some (ps, r') →
    ∃ f1 f2 : Fp, RtL K G H (r' ++ tm) (s ++ us) f1 ∧ RtL K G H ps (vs.map some) f2 ∧ (∀ b, f1 b → fa b) ∧ (∀ b, f2 b → fa b ∨ fb b) ∧ (∀ b, f1 b → ¬ f2 b) ∧ r'.length = s.length := by
  intro ws
  induction ws with
  | nil =>
    intro vs r r' ps fa fb hl h1 h2 d hw e
    cases vs with
    | cons _ _ => exact hw.elim
    | nil =>
      cases e
      exact ⟨fa, fun _ => False, h1, .nil, fun b hb => hb, fun b hb => hb.elim, fun b _ z => z, hl⟩
  | cons w ws ih =>
    intro vs r r' ps fa fb hl h1 h2 d hw e
    cases vs with
    | nil => exact hw.elim
    | cons v vs =>
      obtain ⟨hw1, hw⟩ := hw
      cases w with
      | sh dd =>
        obtain ⟨⟨ps0, r0⟩, e1, e⟩ := Option.bind_eq_some_iff.mp (show (pars r ws).bind _ = some (ps, r') from e)
        cases e
        obtain ⟨f1, f2, k1, k2, k3, k4, k5, k6⟩ := ih hl h1 (by simpa only [tmL, vlL, W.tm, W.vl, List.nil_append] using h2) d hw e1
        exact ⟨f1, f2, k1, .cons (g := fun _ => False) (.fz hw1) k2 (fun b hb => hb.elim) (fun b hb => hb) (fun b hb => hb.elim), k3, k4, k5, k6⟩
      | nw t =>
        obtain ⟨⟨ps0, r0⟩, e1, e⟩ := Option.bind_eq_some_iff.mp (show (pars r ws).bind _ = some (ps, r') from e)
        cases e
        cases h2 with | @cons _ _ _ _ _ g h a1 a2 a3 a4 a5 =>
          obtain ⟨f1, f2, k1, k2, k3, k4, k5, k6⟩ := ih hl h1 a2 (fun b hb z => d b hb (a4 b z)) hw e1
          exact ⟨f1, fun b => g b ∨ f2 b, k1, .cons a1 k2 (fun b hb => Or.inl hb) (fun b hb => Or.inr hb) (fun b hb z => (k4 b z).elim (fun q => d b q (a3 b hb)) (a5 b hb)), k3, fun b hb => hb.elim (fun z => Or.inr (a3 b z)) fun z => (k4 b z).elim Or.inl fun q => Or.inr (a4 b q), fun b hb z => z.elim (fun q => d b (k3 b hb) (a3 b q)) (k5 b hb), k6⟩
      | pl i =>
        have h2' : RtL K G H (tmL ws) (vlL ws vs) fb := by simpa only [tmL, vlL, W.tm, W.vl, List.nil_append] using h2
        unfold pars at e
        split at e
        · rename_i dd hr
          obtain ⟨⟨ps0, r0⟩, e1, e⟩ := Option.bind_eq_some_iff.mp e
          cases e
          have hi : i < r.length := (List.getElem?_eq_some_iff.mp hr).1
          obtain ⟨y, g, h, b1, b2, _⟩ := h1.at (i := i) (by rw [List.getElem?_append_left hi]; exact hr)
          rw [List.getElem?_append_left (by omega), show s[i]? = some (some v) from hw1] at b1
          cases b1
          obtain ⟨f1, f2, k1, k2, k3, k4, k5, k6⟩ := ih hl h1 h2' d hw e1
          cases b2 with | fz q => exact ⟨f1, f2, k1, .cons (g := fun _ => False) (.fz q) k2 (fun b hb => hb.elim) (fun b hb => hb) (fun b hb => hb.elim), k3, k4, k5, k6⟩
        · cases e
        · cases e
        · rename_i t n1 n2 hr
          obtain ⟨⟨ps0, r0⟩, e1, e⟩ := Option.bind_eq_some_iff.mp e
          cases e
          have hi : i < r.length := (List.getElem?_eq_some_iff.mp hr).1
          obtain ⟨y, g, h, b1, b2, b3, b4, b5, b6⟩ := h1.at (i := i) (by rw [List.getElem?_append_left hi]; exact hr)
          have q1 := b6 G H .un y (fun _ => False) (Ex.refl G) (fun _ _ => rfl) .un (fun b hb => hb.elim)
          rw [set_same b1, List.set_append_left _ _ hi] at q1
          rw [List.getElem?_append_left (by omega), show s[i]? = some (some v) from hw1] at b1
          cases b1
          obtain ⟨f1, f2, k1, k2, k3, k4, k5, k6⟩ := ih (by rw [List.length_set]; exact hl) (q1.weak (f' := h) fun b hb => hb.elim (fun z => z.elim) fun z => z) h2' (fun b hb z => d b (b4 b hb) z) hw e1
          exact ⟨f1, fun b => g b ∨ f2 b, k1, .cons b2 k2 (fun b hb => Or.inl hb) (fun b hb => Or.inr hb) (fun b hb z => (k4 b z).elim (b5 b hb) fun q => d b (b3 b hb) q), fun b hb => b4 b (k3 b hb), fun b hb => hb.elim (fun z => Or.inl (b3 b z)) fun z => (k4 b z).elim (fun q => Or.inl (b4 b q)) Or.inr, fun b hb z => z.elim (fun q => b5 b q (k3 b hb)) (k5 b hb), k6⟩
def putBack (r : Env) (i : Nat) (p : T) : Env := match r[i]? with
  | some .un => r.set i p
  | _ => r
def back : Env → List W → List T → Env
  | r, .pl i :: ws, p :: ps => back (putBack r i p) ws ps
  | r, _ :: ws, _ :: ps => back r ws ps
  | r, _, _ => r
theorem back_ok {G H : Hp} {s : L2.St} {tm : List T} {us : List (Option V)} : ∀ {ws : List W} {vs : List V} {r : Env} {ps : List T} {fa fb : Fp}, r.length = s.length → RtL K G H (r ++ tm) (s ++ us) fa → RtL K G H ps (vs.map some) fb → (∀ b, fa b → ¬ fb b) → WVs K G s ws vs →
    ∃ f1 : Fp, RtL K G H (back r ws ps ++ tm) (s ++ us) f1 ∧ (∀ b, f1 b → fa b ∨ fb b) ∧ (back r ws ps).length = s.length := by
  intro ws
  induction ws with
  | nil =>
    intro vs r ps fa fb hl h1 h2 d hw
    have e : back r [] ps = r := by cases ps <;> rfl
    rw [e]
    exact ⟨fa, h1, fun b hb => Or.inl hb, hl⟩
  | cons w ws ih =>
    intro vs r ps fa fb hl h1 h2 d hw
    cases vs with
    | nil => exact hw.elim
    | cons v vs =>
      obtain ⟨hw1, hw⟩ := hw
      cases ps with
      | nil => cases h2
      | cons p ps =>
        cases h2 with | @cons _ _ _ _ _ g h a1 a2 a3 a4 a5 =>
          have go : ∃ f1 : Fp, RtL K G H (back r ws ps ++ tm) (s ++ us) f1 ∧ (∀ b, f1 b → fa b ∨ fb b) ∧ (back r ws ps).length = s.length := by
            obtain ⟨f1, k1, k2, k3⟩ := ih hl h1 a2 (fun b hb z => d b hb (a4 b z)) hw
            exact ⟨f1, k1, fun b hb => (k2 b hb).elim Or.inl fun z => Or.inr (a4 b z), k3⟩
          cases w with
          | sh dd => exact go
          | nw t => exact go
          | pl i =>
            show ∃ f1 : Fp, RtL K G H (back (putBack r i p) ws ps ++ tm) (s ++ us) f1 ∧ (∀ b, f1 b → fa b ∨ fb b) ∧ (back (putBack r i p) ws ps).length = s.length
            unfold putBack
            split
            · rename_i hr
              have hi : i < r.length := (List.getElem?_eq_some_iff.mp hr).1
              obtain ⟨y, g0, h0, b1, b2, b3, b4, b5, b6⟩ := h1.at (i := i) (by rw [List.getElem?_append_left hi]; exact hr)
              rw [List.getElem?_append_left (by omega), show s[i]? = some (some v) from hw1] at b1
              cases b1
              have q1 := b6 G H p (some v) g (Ex.refl G) (fun _ _ => rfl) a1 (fun b hb z => d b (b4 b z) (a3 b hb))
              rw [List.set_append_left _ _ hi, set_same (show (s ++ us)[i]? = some (some v) by rw [List.getElem?_append_left (by omega)]; exact hw1)] at q1
              obtain ⟨f1, k1, k2, k3⟩ := ih (by rw [List.length_set]; exact hl) q1 a2 (fun b hb z => hb.elim (fun q => a5 b q z) fun q => d b (b4 b q) (a4 b z)) hw
              exact ⟨f1, k1, fun b hb => (k2 b hb).elim (fun z => z.elim (fun q => Or.inr (a3 b q)) fun q => Or.inl (b4 b q)) fun z => Or.inr (a4 b z), k3⟩
            · exact go
def resW : T → W
  | .fz d => .sh d
  | t => .nw t
theorem WVs.mono {G G' : Hp} {s : L2.St} (x : Ex G G') : ∀ {ws : List W} {vs : List V}, WVs K G s ws vs → WVs K G' s ws vs
  | [], [], _ => trivial
  | [], _ :: _, h => h.elim
  | _ :: _, [], h => h.elim
  | _ :: _, _ :: _, ⟨h1, h2⟩ => ⟨h1.mono x, h2.mono x⟩
theorem WVs.len {G : Hp} {s : L2.St} : ∀ {ws : List W} {vs : List V}, WVs K G s ws vs → ws.length = vs.length
  | [], [], _ => rfl
  | [], _ :: _, h => h.elim
  | _ :: _, [], h => h.elim
  | _ :: _, _ :: _, ⟨_, h2⟩ => congrArg Nat.succ h2.len
theorem vlL_len : ∀ {ws : List W} {vs : List V}, ws.length = vs.length → (tmL ws).length = (vlL ws vs).length
  | [], [], _ => rfl
  | w :: ws, v :: vs, h => by
    have := vlL_len (ws := ws) (vs := vs) (Nat.succ.inj h)
    cases w <;> simp [tmL, vlL, W.tm, W.vl, this]
theorem call_ok {F : Fx} {G H : Hp} {r r2 : Env} {s : L2.St} {tm : List T} {us : List (Option V)} {ws : List W} {vs : List V} {ps : List T} (I : SI K F G H (r ++ (tm ++ tmL ws)) (s ++ (us ++ vlL ws vs))) (hl : r.length = s.length) (ht : tm.length = us.length) (hw : WVs K G s ws vs) (e : pars r ws = some (ps, r2)) :
    ∃ f, Entry K G H ps vs f ∧
      (∀ ps' G' H', End K G H f ps' (vs.map some) G' H' → SI K F G' H' (back r2 ws ps' ++ tm) (s ++ us) ∧ (back r2 ws ps').length = s.length) ∧
      ∀ ps' t v G' H', End K G H f (ps' ++ [t]) (vs.map some ++ [some v]) G' H' → ps'.length = vs.length → SI K F G' H' (back r2 ws ps' ++ (tm ++ (resW t).tm)) (s ++ (us ++ (resW t).vl v)) ∧ (back r2 ws ps').length = s.length ∧ WV K G' s (resW t) v := by
  obtain ⟨f, hr, hf⟩ := I.own
  simp only [← List.append_assoc] at hr
  obtain ⟨ga, gb, h1, h2, h3, h4, h5⟩ := hr.split (by simp; omega)
  obtain ⟨f1, f2, k1, k2, k3, k4, k5, k6⟩ := pars_ok hl h1 h2 h5 hw e
  have f2f : ∀ b, f2 b → f b := fun b hb => (k4 b hb).elim (h3 b) (h4 b)
  have f1f : ∀ b, f1 b → f b := fun b hb => h3 b (k3 b hb)
  have after : ∀ {ps' : List T} {G' H' : Hp} {fb : Fp}, Ex G G' → Sub G' H' → Plain G' → (∀ a o, H a = some o → ¬ f2 a → H' a = some o) → (∀ a, H a ≠ none → H' a ≠ none) → (∀ a o, G' a = some o → G a = some o ∨ f2 a ∨ H a = none) →
      RtL K G' H' ps' (vs.map some) fb → (∀ b, fb b → G' b = none ∧ H' b ≠ none ∧ (f2 b ∨ H b = none)) → ∃ fc : Fp, RtL K G' H' (back r2 ws ps' ++ tm) (s ++ us) fc ∧ (∀ b, fc b → f1 b ∨ fb b) ∧ (∀ b, f1 b → G' b = none ∧ H' b ≠ none) ∧ (back r2 ws ps').length = s.length := fun {ps' G' H' fb} x1 x2 x3 kp lv gn rp ob => by
    have same : ∀ b, f1 b → H' b = H b := fun b hb => by
      cases z : H b with
      | none => exact absurd z (hf b (f1f b hb)).2.1
      | some o => exact kp b o z (k5 b hb)
    obtain ⟨fc, c1, c2, c3⟩ := back_ok k6 (k1.frame x1 same) rp (fun b hb z => (ob b z).2.2.elim (k5 b hb) fun q => (hf b (f1f b hb)).2.1 q) (hw.mono x1)
    refine ⟨fc, c1, c2, fun b hb => ⟨?_, lv b (hf b (f1f b hb)).2.1⟩, c3⟩
    cases z : G' b with
    | none => rfl
    | some o =>
      rcases gn b o z with q | q | q
      · rw [(hf b (f1f b hb)).1] at q; cases q
      · exact absurd q (k5 b hb)
      · exact absurd q (hf b (f1f b hb)).2.1
  refine ⟨f2, ⟨k2, fun b hb => ⟨(hf b (f2f b hb)).1, (hf b (f2f b hb)).2.1⟩, I.gh, I.pl⟩, fun ps' G' H' En => ?_, fun ps' t v G' H' En lp => ?_⟩
  · obtain ⟨fb, rb, ob⟩ := En.rt
    obtain ⟨fc, c1, c2, c3, c4⟩ := after En.gg En.gh En.pl En.keep En.lv En.gn rb ob
    refine ⟨I.next f hf En.gg En.gh En.pl (fun a o z q => En.keep a o z fun w => q (f2f a w)) En.lv (fun a o z => (En.gn a o z).elim Or.inl fun q => q.elim (fun q => Or.inr (Or.inl (f2f a q))) fun q => Or.inr (Or.inr q)) c1 (fun b hb => ?_), c4⟩
    rcases c2 b hb with q | q
    · exact ⟨(c3 b q).1, (c3 b q).2, Or.inl (f1f b q)⟩
    · exact ⟨(ob b q).1, (ob b q).2.1, (ob b q).2.2.elim (fun z => Or.inl (f2f b z)) Or.inr⟩
  · obtain ⟨fb, rb, ob⟩ := En.rt
    obtain ⟨g1, g2, m1, m2, m3, m4, m5⟩ := rb.split (by rw [List.length_map]; exact lp)
    obtain ⟨fc, c1, c2, c3, c4⟩ := after En.gg En.gh En.pl En.keep En.lv En.gn m1 (fun b hb => ob b (m3 b hb))
    have hfc : ∀ b, fc b → G' b = none ∧ H' b ≠ none ∧ (f b ∨ H b = none) := fun b hb => by
      rcases c2 b hb with q | q
      · exact ⟨(c3 b q).1, (c3 b q).2, Or.inl (f1f b q)⟩
      · exact ⟨(ob b (m3 b q)).1, (ob b (m3 b q)).2.1, (ob b (m3 b q)).2.2.elim (fun z => Or.inl (f2f b z)) Or.inr⟩
    have nx : ∀ {r' : List T} {x' : List (Option V)} {f' : Fp}, RtL K G' H' r' x' f' → (∀ b, f' b → G' b = none ∧ H' b ≠ none ∧ (f b ∨ H b = none)) → SI K F G' H' r' x' := fun rr hh =>
      I.next f hf En.gg En.gh En.pl (fun a o z q => En.keep a o z fun w => q (f2f a w)) En.lv (fun a o z => (En.gn a o z).elim Or.inl fun q => q.elim (fun q => Or.inr (Or.inl (f2f a q))) fun q => Or.inr (Or.inr q)) rr hh
    have own : ∀ t0, RtL K G' H' [t0] [some v] g2 → SI K F G' H' (back r2 ws ps' ++ (tm ++ [t0])) (s ++ (us ++ [some v])) := fun t0 mm => by
      have := mm.app c1 fun b hb z => (c2 b hb).elim (fun q => (ob b (m4 b z)).2.2.elim (k5 b q) fun w => (hf b (f1f b q)).2.1 w) fun q => m5 b q z
      simp only [← List.append_assoc]
      exact nx this fun b hb => hb.elim (hfc b) fun z => ⟨(ob b (m4 b z)).1, (ob b (m4 b z)).2.1, (ob b (m4 b z)).2.2.elim (fun z => Or.inl (f2f b z)) Or.inr⟩
    cases t with
    | fz d =>
      refine ⟨by simpa only [resW, W.tm, W.vl, List.append_nil] using nx c1 hfc, c4, ?_⟩
      cases m2 with | cons a1 _ _ _ _ => cases a1 with | fz q => exact q
    | un => exact ⟨own _ m2, c4, trivial⟩
    | ls l => exact ⟨own _ m2, c4, trivial⟩
    | tp l => exact ⟨own _ m2, c4, trivial⟩
    | dk ks l => exact ⟨own _ m2, c4, trivial⟩
    | dt ks l => exact ⟨own _ m2, c4, trivial⟩
/-- f(..), where nothing is raised -/
def dCall (fn : FnT) (f : AD) : ED := fun r => (f r).bind fun p => (pars p.2 p.1).bind fun q => (fn q.1).bind fun z => match z.1 with
  | .ret t => if z.2.length = p.1.length then some (resW t, back q.2 p.1 z.2) else none
  | .exc _ => none
theorem de_ucall {n : Nat} {fn : FnT} {f : AD} {ta : TA} {E : XK} (hn : ∀ ps z, fn ps = some z → ps.length = n) (h : DA K ta f) : DE K (tCall (spD K n fn) [] E ta) (dCall fn f) := fun F G H r s tm us w r' I hl e Q q => by
  obtain ⟨⟨ws, r1⟩, e1, e⟩ := Option.bind_eq_some_iff.mp e
  obtain ⟨⟨ps, r2⟩, e2, e⟩ := Option.bind_eq_some_iff.mp e
  obtain ⟨⟨z, ps'⟩, e3, e⟩ := Option.bind_eq_some_iff.mp e
  have ht : tm.length = us.length := by have := I.len; simp at this; omega
  cases z with
  | exc c => cases e
  | ret t =>
    dsimp only at e
    split at e
    · rename_i c
      cases e
      refine h F G H r s tm us ws r1 I hl e1 _ fun vs G1 H1 x1 I1 l1 hw => ?_
      obtain ⟨f0, En, _, k2⟩ := call_ok I1 l1 ht hw e2
      have lv : ps.length = vs.length := by have := En.rt.length; rw [List.length_map] at this; exact this
      refine ⟨by rw [List.append_nil, ← lv]; exact hn ps _ e3, G1, f0, ps, .ret t, ps', e3, by rw [List.append_nil]; exact En, fun v G2 H2 Ed => ?_⟩
      rw [List.append_nil] at Ed
      obtain ⟨j1, j2, j3⟩ := k2 ps' t v G2 H2 Ed (by rw [c]; exact hw.len)
      exact q v G2 H2 (x1.trans Ed.gg) j1 j2 j3
    · cases e
/-- f(..), of which a refusal may come -/
def dCallX (fn : FnT) (f : AD) : XD := fun r => (f r).bind fun p => (pars p.2 p.1).bind fun q => (fn q.1).bind fun z => match z.1 with
  | .ret t => if z.2.length = p.1.length then some (.inl (resW t), back q.2 p.1 z.2) else none
  | .exc c => some (.inr c, back q.2 p.1 z.2)
theorem dx_ucall {X : WX} {n : Nat} {fn : FnT} {f : AD} {ta : TA} (hn : ∀ ps z, fn ps = some z → ps.length = n) (h : DA K ta f) : DX K X (tCallS (spD K n fn) (WE X) ta) (dCallX fn f) := fun F G H r s zz r' I e Q q => by
  obtain ⟨⟨ws, r1⟩, e1, e⟩ := Option.bind_eq_some_iff.mp e
  obtain ⟨⟨ps, r2⟩, e2, e⟩ := Option.bind_eq_some_iff.mp e
  obtain ⟨⟨z, ps'⟩, e3, e⟩ := Option.bind_eq_some_iff.mp e
  refine h F G H r s [] [] ws r1 (by simpa only [List.append_nil] using I) I.len e1 _ fun vs G1 H1 x1 I1 l1 hw => ?_
  obtain ⟨f0, En, k1, k2⟩ := call_ok I1 l1 rfl hw e2
  have lv : ps.length = vs.length := by have := En.rt.length; rw [List.length_map] at this; exact this
  cases z with
  | exc c =>
    cases e
    refine ⟨by rw [← lv]; exact hn ps _ e3, G1, f0, ps, .exc c, ps', e3, En, fun G2 H2 Ed => ?_⟩
    exact q G2 H2 (x1.trans Ed.gg) (by simpa only [List.append_nil] using (k1 ps' G2 H2 Ed).1)
  | ret t =>
    dsimp only at e
    split at e
    · rename_i c
      cases e
      refine ⟨by rw [← lv]; exact hn ps _ e3, G1, f0, ps, .ret t, ps', e3, En, fun v G2 H2 Ed => ?_⟩
      obtain ⟨j1, j2, j3⟩ := k2 ps' t v G2 H2 Ed (by rw [c]; exact hw.len)
      exact q v G2 H2 (x1.trans Ed.gg) (by simpa only [List.nil_append] using j1) j2 j3
    · cases e
theorem fnD_len {n N : Nat} {fx : List Bool} {g : SD} (ps : List T) (z : Res × List T) (e : fnD n N fx g ps = some z) : ps.length = n := by
  unfold fnD at e
  split at e
  · assumption
  · cases e
end
end Q

set_option Elab.async false
set_option linter.all false
set_option maxRecDepth 100000
set_option maxHeartbeats 2000000
namespace Q
open PySem PySem.Spec PyProof.Rows L2
/-! ### a def's promise where no guard of repr stands around -/
structure FnG (P : Program) (w : World) (K : PySem.W.Frag) (mg : Str → Option Value) (base : Heap) (k : Nat) (f : Addr) (fd : FuncData) (ps : List Str) (sp : Sp) : Prop where
  len : ∀ vs H Q E, sp vs H Q E → vs.length = ps.length
  run : ∀ (A : Around) (outer : List PySem.Env) (s : Shared) (H : Hp) (args : Args) (us : List Value) (vs : List V) (Q : VK) (E : XK), Room k A → A.guards = some [] → Env0 P w K mg base A outer s H → BindsTo s fd args (ps.zip us) → Vals vs us → sp vs H Q E →
    codeAny (model P w) A (.call (.ref f) args) (CR (L2.CX P w) outer P w H s Q E) s
theorem FnG.mono {P : Program} {w : World} {K : PySem.W.Frag} {mg : Str → Option Value} {base : Heap} {j k : Nat} {f : Addr} {fd : FuncData} {ps : List Str} {sp : Sp} (h : FnG P w K mg base j f fd ps sp) (l : j ≤ k) : FnG P w K mg base k f fd ps sp :=
  ⟨h.len, fun A outer s H args us vs Q E hr => h.run A outer s H args us vs Q E (Room.mono hr l)⟩
section
variable {K : PySem.W.Frag}
theorem fn_ok {P : Program} {w : World} {mg : Str → Option Value} {base : Heap} {x qual : Str} {st : Stmt} {f : Addr} {fd : FuncData} {N ps : List Str} {k : Nat} {g : SD} {fx : List Bool} (F : Fun K x qual st f fd) (S : FnScope N ps (defScope st)) (hfx : fx.length = ps.length)
    (hb : ∀ (cdv : Value) (A : Around) (outer : List PySem.Env) (s : Shared) (H : Hp) (E : XK), A.guards = some [] → Room k (A.deeper (envOfC qual (defScope st) s.heap.objs.size f cdv)) →
      ∃ t, PSs (cxOf (L2.CX P w) P w K mg base N qual (defScope st) f cdv A outer s H E) (defBody st) t ∧ DS K (fun i => !(fx[i]? == some true)) (fun c d _ H => E c d H) t g) : FnG P w K mg base (k + 1) f fd ps (spD K ps.length (fnD ps.length N.length fx g)) := by
  obtain ⟨oc, od, kV, doc, pm, an, cdv, ct, osl, rfl, lk, hcd⟩ := F.ex
  have hN : ps.length ≤ N.length := by have := congrArg List.length S.pre; rw [List.length_take] at this; omega
  refine ⟨fun vs H Q E h => h.1, fun A outer s H args us vs Q E room gu e0 bd vals hsp => ?_⟩
  have old : ∀ b o, base.get? b = some o → s.heap.get? b = some o := fun b o e => (e0.bs b o e).1
  have kin : K.In s.heap := e0.mod.kin.keeps old
  refine codeAny_call_function room.depth (kin _ _ lk) rfl S.co S.gen rfl (PySem.W.codeRec_of kin hcd) (bd _ _ _ _ ?_)
  refine wpAny_newFunctionEnv_cells S.kind (fun ⟨n, v⟩ hy => ?_) fun env he s1 inc => ?_
  · rcases S.par n (List.of_mem_zip hy).1 with z | z
    · exact Or.inl z
    · exact Or.inr ⟨z, PySem.W.cellsFrom_some _ _ _ (Or.inl z)⟩
  · subst he
    refine ⟨(e0.mod.nolimit.keeps old).keeps inc.toInCall.keep, codeAny_func ?_⟩
    obtain ⟨t, p1, p2⟩ := hb cdv A outer s H E gu (room.deeper _)
    obtain ⟨lv, G, fp, pss, z, ps', e, En, q⟩ := hsp
    have start0 := inv_start (CX := L2.CX P w) (E := E) (f := f) S room.hd e0 lv vals inc
    refine wpAny_mono (p1.run [] s1 (L2.start N vs) H _ start0 (fnD_run p2 hN hfx lv e En q)) (fun fl s' done => ?_) fun _ _ z => z
    cases fl with
    | brk => obtain ⟨_, _, _, z⟩ := done; exact z.elim
    | cont => obtain ⟨_, _, _, z⟩ := done; exact z.elim
    | ret u => obtain ⟨v, _, H', J, rv, z⟩ := done; exact ⟨v, H', J.os, J.bare, J.base, J.hok, rv, z⟩
    | next => obtain ⟨_, H', J, z⟩ := done; exact ⟨.non, H', J.os, J.bare, J.base, J.hok, rfl, z⟩
end
section
variable {X : Cx} {k : Nat} {f : Addr} {fd : FuncData} {ps : List Str} {sp : Sp} {E : L2.St → XK} {x : Str} {p pos : Pos} {e : Expr} {es : List Expr} {t : TA}
theorem run_fn {pins : List (Addr × Obj)} {σ : L2.St} {H : Hp} {s : Shared} {Q : VK} {us : List Value} {vs : List V} (F : FnG X.prog X.w X.K X.mg X.base k f fd ps sp) (hr : Room k X.A) (gu : X.A.guards = some []) (hb : Binds X.K fd ps []) (hx : PassesAt (L2.CX X.prog X.w) X σ (E σ))
    (I : Inv X pins σ H s) (rv : Vals vs us) (h : sp vs H Q (E σ)) : wpAny (model X.prog X.w) X.A (call (.ref f) us) (EP X pins σ Q) X.xe s := by
  have hl : (us ++ []).length = ps.length := by rw [List.append_nil, ← rv.length]; exact F.len _ _ _ _ h
  have bd := hb s us I.kIn hl
  rw [List.append_nil] at bd
  refine wpAny_call (codeAny_mono (F.run X.A X.stack s H ⟨us, []⟩ us vs Q (E σ) hr gu I.env0 bd rv h) fun res s' told => ?_)
  match res, told with
  | .error er, told => exact hx pins H s er s' I told
  | .ok (.ret u), told => exact I.after told
/-- f(e, ..) -/
theorem pe_fn (F : FnG X.prog X.w X.K X.mg X.base k f fd ps sp) (hr : Room k X.A) (gu : X.A.guards = some []) (hg : Gl X x) (hm : X.mg x = some (.ref f)) (hk : PySem.W.keepIn X.K (.ref f) = true) (hb : Binds X.K fd ps []) (hx : ∀ σ, PassesAt (L2.CX X.prog X.w) X σ (E σ))
    (ha : PA X (e :: es) t) (hdb : (x == ("__debug__" : Str)) = false := by decide) (he : starEach (e :: es) X.env = (false, eval e X.env) :: starEach es X.env := by rfl) (hpl : (backTo pos (starEach es X.env)).any (·.1) = false := by rfl) :
    PE X (.Call (.Name x p) (e :: es) [] pos) (tCallS sp E t) := by
  refine ⟨fun pins s σ H Q I h => wpAny_Call_Name_kw (ld_glob I hg hm ?_ hdb)⟩
  refine PySem.W.callWith_K (h₀ := X.base) I.ok.mod.kin hk (thn (ha.run pos pins s σ H _ I h) fun us s1 done => ?_) he hpl
  obtain ⟨vs, H1, I1, rv, q⟩ := done
  exact ⟨I1.kIn, run_fn F hr gu hb (hx σ) I1 rv q⟩
theorem passNo {X : Cx} (σ : L2.St) : PassesAt (L2.CX X.prog X.w) X σ ((fun _ _ _ _ => False : L2.St → XK) σ) := fun _ _ _ _ _ _ c => by
  obtain ⟨_, _, _, _, _, _, _, _, _, _, _, _, z⟩ := c
  exact z.elim
end
section
variable {K : PySem.W.Frag}
/-- f(..) by its worth, where nothing is raised -/
theorem de_fn {n : Nat} {fn : FnT} {f : AD} {ta : TA} {E : L2.St → XK} (hn : ∀ ps z, fn ps = some z → ps.length = n) (h : DA K ta f) : DE K (tCallS (spD K n fn) E ta) (dCall fn f) := fun F G H r s tm us w r' I hl e Q q => by
  have := de_ucall (E := E s) hn h F G H r s tm us w r' I hl e Q q
  unfold tCall at this
  simp only [List.append_nil] at this
  exact this
/-! ### operations -/
def gRI (C : Int → Int → Prop) [∀ i j, Decidable (C i j)] (h : Int → Int → D) : List D → Option Rs
  | [.int i, .int j] => if C i j then some (.val (h i j)) else none
  | _ => none
theorem dc_rI {C : Int → Int → Prop} [∀ i j, Decidable (C i j)] {h : Int → Int → D} {hv : Int → Int → V} (rp : ∀ G i j, Rp K G (h i j) (hv i j)) : DC K (rl2 (rI C hv)) (gRI C h) := fun G H xs vs z _ _ q e Q k => by
  unfold gRI at e
  split at e
  · rename_i i j
    split at e
    · rename_i c
      cases e
      cases q with | cons a q => cases q with | cons b q => cases q; cases a; cases b; exact ⟨i, j, rfl, rfl, c, k _ (rp G i j)⟩
    · cases e
  · cases e
def gRI0 (h : Int → Int → D) : List D → Option Rs
  | [.int i, .int j] => some (.val (h i j))
  | _ => none
theorem dc_rI0 {h : Int → Int → D} {hv : Int → Int → V} (rp : ∀ G i j, Rp K G (h i j) (hv i j)) : DC K (rl2 (rI0 hv)) (gRI0 h) := fun G H xs vs z _ _ q e Q k => by
  unfold gRI0 at e
  split at e
  · rename_i i j
    cases e
    cases q with | cons a q => cases q with | cons b q => cases q; cases a; cases b; exact ⟨i, j, rfl, rfl, k _ (rp G i j)⟩
  · cases e
def gAdd := gRI0 fun i j => .int (i + j)
def gSubI := gRI0 fun i j => .int (i - j)
instance : ∀ i j, Decidable (CMulW i j) := fun i j => inferInstanceAs (Decidable (_ < _))
instance : ∀ i j, Decidable (CMul i j) := fun i j => inferInstanceAs (Decidable (_ ∨ _))
instance : ∀ i j, Decidable (CDivW i j) := fun i j => inferInstanceAs (Decidable (_ ∧ _))
instance : ∀ i j, Decidable (CPow i j) := fun i j => inferInstanceAs (Decidable (_ ∧ _))
def gMul := gRI CMulW fun i j => .int (i * j)
def gMul1 := gRI CMul fun i j => .int (i * j)
def gMod := gRI (fun _ j => 0 < j) fun i j => .int (i % j)
def gDiv := gRI CDivW fun i j => .int (i / j)
def gPow := gRI CPow fun i j => .int (i ^ j.toNat)
def gShl := gRI CPow fun i j => .int (i * 2 ^ j.toNat)
def gShr := gRI (fun _ j => 0 ≤ j) fun i j => .int (i / 2 ^ j.toNat)
def gBand := gRI0 fun i j => .int (Builtin.bitAnd i j)
def gBor := gRI0 fun i j => .int (Builtin.bitOr i j)
def gBxor := gRI0 fun i j => .int (Builtin.bitXor i j)
def gLt := gRI0 fun i j => .bl (decide (i < j))
def gLe := gRI0 fun i j => .bl (decide (i ≤ j))
def gGt := gRI0 fun i j => .bl (decide (j < i))
def gGe := gRI0 fun i j => .bl (decide (j ≤ i))
theorem dc_add : DC K (rl2 (rI0 fun i j => .int (i + j))) gAdd := dc_rI0 fun _ i j => .int _
theorem dc_sub : DC K (rl2 (rI0 fun i j => .int (i - j))) gSubI := dc_rI0 fun _ i j => .int _
theorem dc_mul : DC K (rl2 (rI CMulW fun i j => .int (i * j))) gMul := dc_rI fun _ i j => .int _
theorem dc_mul1 : DC K (rl2 (rI CMul fun i j => .int (i * j))) gMul1 := dc_rI fun _ i j => .int _
theorem dc_mod : DC K (rl2 (rI (fun _ j => 0 < j) fun i j => .int (i % j))) gMod := dc_rI fun _ i j => .int _
theorem dc_div : DC K (rl2 (rI CDivW fun i j => .int (i / j))) gDiv := dc_rI fun _ i j => .int _
theorem dc_pow : DC K (rl2 (rI CPow fun i j => .int (i ^ j.toNat))) gPow := dc_rI fun _ i j => .int _
theorem dc_shl : DC K (rl2 (rI CPow fun i j => .int (i * 2 ^ j.toNat))) gShl := dc_rI fun _ i j => .int _
theorem dc_shr : DC K (rl2 (rI (fun _ j => 0 ≤ j) fun i j => .int (i / 2 ^ j.toNat))) gShr := dc_rI fun _ i j => .int _
theorem dc_band : DC K (rl2 (rI0 fun i j => .int (Builtin.bitAnd i j))) gBand := dc_rI0 fun _ i j => .int _
theorem dc_bor : DC K (rl2 (rI0 fun i j => .int (Builtin.bitOr i j))) gBor := dc_rI0 fun _ i j => .int _
theorem dc_bxor : DC K (rl2 (rI0 fun i j => .int (Builtin.bitXor i j))) gBxor := dc_rI0 fun _ i j => .int _
theorem dc_lt : DC K (rl2 (rI0 fun i j => .bl (decide (i < j)))) gLt := dc_rI0 fun _ i j => .bl _
theorem dc_le : DC K (rl2 (rI0 fun i j => .bl (decide (i ≤ j)))) gLe := dc_rI0 fun _ i j => .bl _
theorem dc_gt : DC K (rl2 (rI0 fun i j => .bl (decide (j < i)))) gGt := dc_rI0 fun _ i j => .bl _
theorem dc_ge : DC K (rl2 (rI0 fun i j => .bl (decide (j ≤ i)))) gGe := dc_rI0 fun _ i j => .bl _
def gNeg : List D → Option Rs
  | [.int i] => some (.val (.int (-i)))
  | _ => none
theorem dc_neg : DC K (rl1 (rU fun i => .int (-i))) gNeg := fun G H xs vs z _ _ q e Q k => by
  unfold gNeg at e
  split at e
  · cases e
    cases q with | cons a q => cases q; cases a; exact ⟨_, rfl, k _ (.int _)⟩
  · cases e
/-- t + u, tuples -/
def gCatT : List D → Option Rs
  | [.tup a, .tup b] => if a.length + b.length ≤ 1000000 then some (.newT (a ++ b)) else none
  | _ => none
theorem dc_catT : DC K (rl2 (rCatA K)) gCatT := fun G H xs vs z sb pl q e Q k => by
  unfold gCatT at e
  split at e
  · rename_i a b
    split at e
    · rename_i c
      cases e
      cases q with | cons x q => cases q with | cons y q =>
        cases q
        cases x with | tup x1 x2 => cases y with | tup y1 y2 =>
          refine ⟨_, _, _, _, rfl, rfl, sub_t pl sb x1, sub_t pl sb y1, big (by rw [← x2.length, ← y2.length]; exact c), fun z => ?_, fun _ z => ?_, fun _ _ p hp => k.2 p _ hp (x2.append y2)⟩
          · subst z
            cases x2
            exact k.1 _ (.tup y1 y2)
          · subst z
            cases y2
            refine k.1 _ (.tup x1 ?_)
            rw [List.append_nil]
            exact x2
    · cases e
  · cases e
def gCatL : List D → Option Rs
  | [.lst a, .lst b] => if a.length + b.length ≤ 1000000 then some (.newL (a ++ b)) else none
  | _ => none
theorem dc_catL : DC K (rl2 rCat) gCatL := fun G H xs vs z sb pl q e Q k => by
  unfold gCatL at e
  split at e
  · rename_i a b
    split at e
    · rename_i c
      cases e
      cases q with | cons x q => cases q with | cons y q =>
        cases q
        cases x with | lst x1 x2 => cases y with | lst y1 y2 =>
          exact ⟨_, _, _, _, rfl, rfl, sub_ex sb x1, sub_ex sb y1, big (by rw [← x2.length, ← y2.length]; exact c), fun p hp => k p _ hp (x2.append y2)⟩
    · cases e
  · cases e
/-! ### data as the library's data -/
mutual
def D.py : D → Option PyData
  | .non => some .none
  | .bl b => some (.bool b)
  | .int i => some (.int i)
  | .str x => some (.str x)
  | .tup l => (pyL l).map .tuple
  | .lst l => (pyL l).map .list
  | _ => none
def pyL : List D → Option (List PyData)
  | [] => some []
  | d :: l => d.py.bind fun x => (pyL l).map (x :: ·)
end
mutual
theorem py_dp {H : Hp} : ∀ (d : D) (v : V) (x : PyData), Rp K H d v → d.py = some x → Dp K H v x
  | _, _, x, .non, e => by unfold D.py at e; cases e; exact .non
  | _, _, x, .bl b, e => by unfold D.py at e; cases e; exact .bl b
  | _, _, x, .int i, e => by unfold D.py at e; cases e; exact .int i
  | _, _, x, .str z, e => by unfold D.py at e; cases e; exact .str z
  | _, _, x, .lst h q, e => by
    unfold D.py at e
    obtain ⟨xs, e1, e2⟩ := Option.map_eq_some_iff.mp e
    subst e2
    exact .lst (Or.inl (Or.inl h)) (pyL_dp _ _ xs q e1)
  | _, _, x, .tup h q, e => by
    unfold D.py at e
    obtain ⟨xs, e1, e2⟩ := Option.map_eq_some_iff.mp e
    subst e2
    exact .tup h (pyL_dp _ _ xs q e1)
  | _, _, x, .scr h, e => by unfold D.py at e; cases e
  | _, _, x, .dk h l q, e => by unfold D.py at e; cases e
  | _, _, x, .dt h l q, e => by unfold D.py at e; cases e
  | _, _, x, .exc h, e => by unfold D.py at e; cases e
  | _, _, x, .fnc a, e => by unfold D.py at e; cases e
theorem pyL_dp {H : Hp} : ∀ (d : List D) (v : List V) (x : List PyData), RpL K H d v → pyL d = some x → DpAll K H v x
  | _, _, x, .nil, e => by unfold pyL at e; cases e; exact .nil
  | _, _, x, .cons h q, e => by
    unfold pyL at e
    obtain ⟨y, e1, e2⟩ := Option.bind_eq_some_iff.mp e
    obtain ⟨ys, e3, e4⟩ := Option.map_eq_some_iff.mp e2
    subst e4
    exact .cons (py_dp _ _ y h e1) (pyL_dp _ _ ys q e3)
end
def gEq : List D → Option Rs
  | [a, b] => a.py.bind fun x => b.py.bind fun y => if SeqAt.shaped x = true ∧ SeqAt.shaped y = true then some (.val (.bl (PyData.eqv x y))) else none
  | _ => none
def gNe : List D → Option Rs
  | [a, b] => a.py.bind fun x => b.py.bind fun y => if SeqAt.shaped x = true ∧ SeqAt.shaped y = true then some (.val (.bl (!PyData.eqv x y))) else none
  | _ => none
theorem dc_eq : DC K (rl2 (rEqD K)) gEq := fun G H xs vs z sb pl q e Q k => by
  unfold gEq at e
  split at e
  · obtain ⟨x, e1, e⟩ := Option.bind_eq_some_iff.mp e
    obtain ⟨y, e2, e⟩ := Option.bind_eq_some_iff.mp e
    split at e
    · rename_i c
      cases e
      cases q with | cons p q => cases q with | cons p2 q => cases q; exact ⟨x, y, py_dp _ _ x (Rp.sub pl sb _ _ p) e1, py_dp _ _ y (Rp.sub pl sb _ _ p2) e2, c.1, c.2, k _ (.bl _)⟩
    · cases e
  · cases e
theorem dc_ne : DC K (rl2 (rNeD K)) gNe := fun G H xs vs z sb pl q e Q k => by
  unfold gNe at e
  split at e
  · obtain ⟨x, e1, e⟩ := Option.bind_eq_some_iff.mp e
    obtain ⟨y, e2, e⟩ := Option.bind_eq_some_iff.mp e
    split at e
    · rename_i c
      cases e
      cases q with | cons p q => cases q with | cons p2 q => cases q; exact ⟨x, y, py_dp _ _ x (Rp.sub pl sb _ _ p) e1, py_dp _ _ y (Rp.sub pl sb _ _ p2) e2, c.1, c.2, k _ (.bl _)⟩
    · cases e
  · cases e
def D.isNon : D → Bool
  | .non => true
  | _ => false
theorem isNon_rp {G : Hp} {d : D} {v : V} (h : Rp K G d v) : decide (v = .non) = d.isNon := by
  cases h <;> first | rfl | (simp [D.isNon])
def gIsN : List D → Option Rs
  | [a, .non] => some (.val (.bl a.isNon))
  | _ => none
def gNotN : List D → Option Rs
  | [a, .non] => some (.val (.bl (!a.isNon)))
  | _ => none
theorem dc_isN : DC K (rl2 fun x y H Q => y = .non ∧ Q (.bl (decide (x = .non))) H) gIsN := fun G H xs vs z sb pl q e Q k => by
  unfold gIsN at e
  split at e
  · cases e
    cases q with | cons p q => cases q with | cons p2 q =>
      cases q
      cases p2
      refine ⟨rfl, ?_⟩
      rw [isNon_rp p]
      exact k _ (.bl _)
  · cases e
theorem dc_notN : DC K (rl2 fun x y H Q => y = .non ∧ Q (.bl (!decide (x = .non))) H) gNotN := fun G H xs vs z sb pl q e Q k => by
  unfold gNotN at e
  split at e
  · cases e
    cases q with | cons p q => cases q with | cons p2 q =>
      cases q
      cases p2
      refine ⟨rfl, ?_⟩
      rw [isNon_rp p]
      exact k _ (.bl _)
  · cases e
/-! ### parts of sequences -/
theorem RpL.atI {G : Hp} {l : List D} {vs : List V} {i : Int} {d : D} (q : RpL K G l vs) (e : atI l i = some d) : ∃ v, atI vs i = some v ∧ Rp K G d v := by
  unfold L2.atI at e ⊢
  rw [← q.length]
  obtain ⟨j, e1, e2⟩ := Option.bind_eq_some_iff.mp e
  obtain ⟨v, e3, e4⟩ := q.get e2
  exact ⟨v, by rw [e1]; exact e3, e4⟩
theorem RpL.ints {G : Hp} (ns : List Int) : RpL K G (ns.map D.int) (ns.map V.int) := by
  induction ns with
  | nil => exact .nil
  | cons n ns ih => exact .cons (.int n) ih
def D.items : D → Option (List D)
  | .lst l => some l
  | .tup l => some l
  | .scr ns => some (ns.map .int)
  | _ => none
theorem items_rp {G H : Hp} {d : D} {v : V} {l : List D} (sb : Sub G H) (h : Rp K G d v) (e : d.items = some l) : ∃ p xs, v = .ref p ∧ (SqL K H p xs ∨ SqT K H p xs) ∧ RpL K G l xs := by
  cases h with
  | lst a b => cases e; exact ⟨_, _, rfl, Or.inl (Or.inl (Or.inl (sub_ex sb a))), b⟩
  | tup a b => cases e; exact ⟨_, _, rfl, Or.inr (sub_t trivial sb a), b⟩
  | scr a => cases e; exact ⟨_, _, rfl, Or.inl (sub_l trivial sb a), RpL.ints _⟩
  | _ => cases e
def gIx : List D → Option Rs
  | [a, .int i] => a.items.bind fun l => (atI l i).bind fun d => some (.val d)
  | _ => none
theorem dc_ix : DC K (rl2 (rIx K)) gIx := fun G H xs vs z sb pl q e Q k => by
  unfold gIx at e
  split at e
  · obtain ⟨l, e1, e⟩ := Option.bind_eq_some_iff.mp e
    obtain ⟨d, e2, e⟩ := Option.bind_eq_some_iff.mp e
    cases e
    cases q with | cons p q => cases q with | cons p2 q =>
      cases q
      cases p2
      obtain ⟨a, us, rfl, h, r⟩ := items_rp sb p e1
      obtain ⟨v, e3, e4⟩ := r.atI e2
      rcases h with h | h
      · exact Or.inl ⟨a, us, _, v, rfl, rfl, h, e3, k _ e4⟩
      · exact Or.inr (Or.inl ⟨a, us, _, v, rfl, rfl, h, e3, k _ e4⟩)
  · cases e
def gLen : List D → Option Rs
  | [.str x] => if x.length ≤ 1000000 then some (.val (.int x.length)) else none
  | [a] => a.items.bind fun l => some (.val (.int l.length))
  | _ => none
theorem dc_len : DC K (fun xs H Q => ∃ x n, xs = [x] ∧ LenV K x H n ∧ Q (.int n) H) gLen := fun G H xs vs z sb pl q e Q k => by
  unfold gLen at e
  split at e
  · split at e
    · rename_i c
      cases e
      cases q with | cons p q => cases q; cases p; exact ⟨_, _, rfl, ⟨big c, rfl⟩, k _ (.int _)⟩
    · cases e
  · obtain ⟨l, e1, e⟩ := Option.bind_eq_some_iff.mp e
    cases e
    cases q with | cons p q =>
      cases q
      obtain ⟨a, us, rfl, h, r⟩ := items_rp sb p e1
      refine ⟨_, us.length, rfl, ?_, k _ (by rw [r.length]; exact .int _)⟩
      rcases h with h | h
      · exact Or.inl ⟨us, h, rfl⟩
      · exact Or.inr ⟨us, h, rfl⟩
  · cases e
def gMax2 : List D → Option Rs
  | [.int i, .int j] => some (.val (.int (if j > i then j else i)))
  | _ => none
def gMin2 : List D → Option Rs
  | [.int i, .int j] => some (.val (.int (if j < i then j else i)))
  | _ => none
theorem dc_max2 : DC K (fun xs H Q => ∃ i j, xs = [.int i, .int j] ∧ Q (.int (if j > i then j else i)) H) gMax2 := fun G H xs vs z sb pl q e Q k => by
  unfold gMax2 at e
  split at e
  · cases e
    cases q with | cons p q => cases q with | cons p2 q => cases q; cases p; cases p2; exact ⟨_, _, rfl, k _ (.int _)⟩
  · cases e
theorem dc_min2 : DC K (fun xs H Q => ∃ i j, xs = [.int i, .int j] ∧ Q (.int (if j < i then j else i)) H) gMin2 := fun G H xs vs z sb pl q e Q k => by
  unfold gMin2 at e
  split at e
  · cases e
    cases q with | cons p q => cases q with | cons p2 q => cases q; cases p; cases p2; exact ⟨_, _, rfl, k _ (.int _)⟩
  · cases e
def gTuple : List D → Option Rs
  | [.lst l] => some (.newT l)
  | [.tup l] => some (.newT l)
  | _ => none
theorem dc_tuple : DC K (fun xs H Q => ∃ p ys, xs = [.ref p] ∧ ((SqL K H p ys ∧ ∀ l, H l = none → Q (.ref l) (upd H l (.tup ys))) ∨ (SqT K H p ys ∧ Q (.ref p) H))) gTuple := fun G H xs vs z sb pl q e Q k => by
  unfold gTuple at e
  split at e
  · cases e
    cases q with | cons p q =>
      cases q
      cases p with | lst a b => exact ⟨_, _, rfl, Or.inl ⟨Or.inl (Or.inl (sub_ex sb a)), fun l hl => k.2 l _ hl b⟩⟩
  · cases e
    cases q with | cons p q =>
      cases q
      cases p with | tup a b => exact ⟨_, _, rfl, Or.inr ⟨sub_t trivial sb a, k.1 _ (.tup a b)⟩⟩
  · cases e
def gList : List D → Option Rs
  | [a] => a.items.bind fun l => some (.newL l)
  | _ => none
theorem dc_list : DC K (fun xs H Q => ∃ p ys, xs = [.ref p] ∧ (SqL K H p ys ∨ SqT K H p ys) ∧ ∀ l, H l = none → Q (.ref l) (upd H l (.lst ys))) gList := fun G H xs vs z sb pl q e Q k => by
  unfold gList at e
  split at e
  · obtain ⟨l, e1, e⟩ := Option.bind_eq_some_iff.mp e
    cases e
    cases q with | cons p q =>
      cases q
      obtain ⟨a, us, rfl, h, r⟩ := items_rp sb p e1
      exact ⟨a, us, rfl, h, fun x hx => k x _ hx r⟩
  · cases e
def bools : List D → Option (List Bool)
  | [] => some []
  | d :: l => d.bool.bind fun b => (bools l).map (b :: ·)
theorem bools_rp {G : Hp} : ∀ {l : List D} {vs : List V} {bs : List Bool}, RpL K G l vs → bools l = some bs → vs = bs.map V.bl
  | [], vs, bs, h, e => by cases h; cases e; rfl
  | d :: l, vs, bs, h, e => by
    obtain ⟨b, e1, e2⟩ := Option.bind_eq_some_iff.mp e
    obtain ⟨bs', e3, e4⟩ := Option.map_eq_some_iff.mp e2
    subst e4
    cases h with | cons h1 h2 => rw [bool_rp h1 e1, bools_rp h2 e3]; rfl
def gAll : List D → Option Rs
  | [.lst l] => (bools l).bind fun bs => some (.val (.bl (bs.all id)))
  | _ => none
theorem dc_all : DC K (rAll K) gAll := fun G H xs vs z sb pl q e Q k => by
  unfold gAll at e
  split at e
  · obtain ⟨bs, e1, e⟩ := Option.bind_eq_some_iff.mp e
    cases e
    cases q with | cons p q =>
      cases q
      cases p with | lst a b => exact ⟨_, bs, rfl, by rw [← bools_rp b e1]; exact Or.inl (Or.inl (sub_ex sb a)), k _ (.bl _)⟩
  · cases e
end
end Q

set_option Elab.async false
set_option linter.all false
set_option maxRecDepth 100000
set_option maxHeartbeats 2000000
namespace Q
open PySem PySem.Spec PyProof.Rows L2
section
variable {K : PySem.W.Frag} {F : Fx} {G H : Hp} {r : List T} {x : List (Option V)}
/-- an own list, changed -/
theorem SI.relist {ts : List T} {ys : List (Option V)} (I : SI K F G H (r ++ ts) (x ++ ys)) (hl : r.length = x.length) {i : Nat} {l : List T} (e : r[i]? = some (.ls l)) :
    ∃ a vs, x[i]? = some (some (.ref a)) ∧ H a = some (.lst vs) ∧ l.length = vs.length ∧ ∃ ge gt : Fp, RtL K G H l (vs.map some) ge ∧ RtL K G H ts ys gt ∧ (∀ b, ge b → ¬ gt b) ∧
      ∀ (l' : List T) (vs' : List V) (ts' : List T) (ys' : List (Option V)) (g' gt' : Fp), RtL K G H l' (vs'.map some) g' → RtL K G H ts' ys' gt' → (∀ b, g' b → ge b ∨ gt b) → (∀ b, gt' b → ge b ∨ gt b) → (∀ b, g' b → ¬ gt' b) → SI K F G (upd H a (.lst vs')) (r.set i (.ls l') ++ ts') (x ++ ys') := by
  obtain ⟨f, hr, hf⟩ := I.own
  obtain ⟨fa, gt, h1, h2, h3, h4, h5⟩ := hr.split hl
  obtain ⟨y, g, h, b1, b2, b3, b4, b5, b6⟩ := h1.at e
  cases b2 with | @ls a vs _ _ ge c1 c2 c3 c4 =>
    refine ⟨a, vs, b1, c2, by have := c3.length; simpa using this, ge, gt, c3, h2, fun b hb z => h5 b (b3 b (c4 b hb).1) z, fun l' vs' ts' ys' g' gt' q1 q2 q3 q4 q5 => ?_⟩
    have na : ∀ b, g' b ∨ gt' b → b ≠ a := fun b hb z => by
      subst z
      have : ge b ∨ gt b := hb.elim (q3 b) (q4 b)
      exact this.elim (fun w => (c4 b w).2 rfl) fun w => h5 b (b3 b c1) w
    have nh : ∀ b, h b → b ≠ a := fun b hb z => by subst z; exact b5 b c1 hb
    have gg : ∀ b, ge b ∨ gt b → ¬ h b := fun b hb z => hb.elim (fun w => b5 b (c4 b w).1 z) fun w => h5 b (b4 b z) w
    have k1 : RtL K G (upd H a (.lst vs')) l' (vs'.map some) g' := q1.frame (Ex.refl G) fun b hb => upd_ne (na b (Or.inl hb))
    have k2 : RtL K G (upd H a (.lst vs')) ts' ys' gt' := q2.frame (Ex.refl G) fun b hb => upd_ne (na b (Or.inr hb))
    have k3 : Rt K G (upd H a (.lst vs')) (.ls l') (some (.ref a)) (fun b => b = a ∨ g' b) := .ls (Or.inl rfl) upd_same k1 fun b hb => ⟨Or.inr hb, na b (Or.inl hb)⟩
    have k4 := b6 G (upd H a (.lst vs')) (.ls l') (some (.ref a)) _ (Ex.refl G) (fun b hb => upd_ne (nh b hb)) k3 (fun b hb z => hb.elim (nh b z) fun w => gg b (q3 b w) z)
    rw [set_same b1] at k4
    have k5 := k2.app k4 fun b hb z => hb.elim (fun w => w.elim (na b (Or.inr z)) fun w => q5 b w z) fun w => gg b (q4 b z) w
    have fin : ∀ b, f b → G b = none ∧ upd H a (.lst vs') b ≠ none ∧ (f b ∨ H b = none) := fun b hb => ⟨(hf b hb).1, by
      by_cases z : b = a
      · subst z; rw [upd_same]; exact Option.some_ne_none _
      · rw [upd_ne z]; exact (hf b hb).2.1, Or.inl hb⟩
    have ff : ∀ b, ge b ∨ gt b → f b := fun b hb => hb.elim (fun w => h3 b (b3 b (c4 b w).1)) (h4 b)
    have fa' : f a := h3 a (b3 a c1)
    refine I.next f hf (Ex.refl G) (fun b o hb => ?_) trivial (fun b o hb z => ?_) (fun b hb => ?_) (fun b o hb => Or.inl hb) k5 (fun b hb => ?_)
    · have : b ≠ a := fun z => by subst z; rw [(hf b fa').1] at hb; cases hb
      rw [upd_ne this]
      exact I.gh b o hb
    · rw [upd_ne fun w => z (by rw [w]; exact fa')]
      exact hb
    · by_cases z : b = a
      · subst z; rw [upd_same]; exact Option.some_ne_none _
      · rw [upd_ne z]; exact hb
    · rcases hb with (z | z) | z
      · rcases z with z | z
        · subst z; exact fin b fa'
        · exact fin b (ff b (q3 b z))
      · exact fin b (h3 b (b4 b z))
      · exact fin b (ff b (q4 b z))
theorem SI.push {t : T} {v : V} (I : SI K F G H (r ++ [t]) (x ++ [some v])) (hl : r.length = x.length) {i : Nat} {l : List T} (e : r[i]? = some (.ls l)) :
    ∃ a vs, x[i]? = some (some (.ref a)) ∧ H a = some (.lst vs) ∧ l.length = vs.length ∧ SI K F G (upd H a (.lst (vs ++ [v]))) (r.set i (.ls (l ++ [t]))) x := by
  obtain ⟨a, vs, e1, e2, e3, ge, gt, c1, c2, c3, fin⟩ := I.relist hl e
  refine ⟨a, vs, e1, e2, e3, ?_⟩
  have := fin (l ++ [t]) (vs ++ [v]) [] [] (fun b => ge b ∨ gt b) (fun _ => False) (by rw [List.map_append]; exact c2.app c1 c3) .nil (fun b hb => hb) (fun b hb => hb.elim) (fun b _ z => z)
  simpa only [List.append_nil] using this
theorem SI.put {t : T} {v : V} (I : SI K F G H (r ++ [t]) (x ++ [some v])) (hl : r.length = x.length) {i : Nat} {l : List T} (e : r[i]? = some (.ls l)) (j : Nat) :
    ∃ a vs, x[i]? = some (some (.ref a)) ∧ H a = some (.lst vs) ∧ l.length = vs.length ∧ SI K F G (upd H a (.lst (vs.set j v))) (r.set i (.ls (l.set j t))) x := by
  obtain ⟨a, vs, e1, e2, e3, ge, gt, c1, c2, c3, fin⟩ := I.relist hl e
  refine ⟨a, vs, e1, e2, e3, ?_⟩
  have key : ∃ g' : Fp, RtL K G H (l.set j t) ((vs.set j v).map some) g' ∧ ∀ b, g' b → ge b ∨ gt b := by
    by_cases c : j < l.length
    · obtain ⟨y, g, h, b1, b2, b3, b4, b5, b6⟩ := c1.at (i := j) (List.getElem?_eq_getElem c)
      cases c2 with | cons a1 _ a3 _ _ =>
        have k := b6 G H t (some v) _ (Ex.refl G) (fun _ _ => rfl) a1 (fun b hb z => c3 b (b4 b z) (a3 b hb))
        rw [← List.map_set] at k
        exact ⟨_, k, fun b hb => hb.elim (fun z => Or.inr (a3 b z)) fun z => Or.inl (b4 b z)⟩
    · rw [List.set_eq_of_length_le (by omega), List.set_eq_of_length_le (by omega)]
      exact ⟨ge, c1, fun b hb => Or.inl hb⟩
  obtain ⟨g', k1, k2⟩ := key
  have := fin (l.set j t) (vs.set j v) [] [] g' (fun _ => False) k1 .nil k2 (fun b hb => hb.elim) (fun b _ z => z)
  simpa only [List.append_nil] using this
theorem SI.popped (I : SI K F G H r x) {i : Nat} {l : List T} {t : T} (e : r[i]? = some (.ls (l ++ [t]))) :
    ∃ a vs v, x[i]? = some (some (.ref a)) ∧ H a = some (.lst (vs ++ [v])) ∧ SI K F G (upd H a (.lst vs)) (r.set i (.ls l) ++ [t]) (x ++ [some v]) := by
  obtain ⟨a, vs, e1, e2, e3, ge, gt, c1, c2, c3, fin⟩ := SI.relist (ts := []) (ys := []) (by simpa only [List.append_nil] using I) I.len e
  have hv : vs ≠ [] := fun z => by subst z; simp at e3
  obtain ⟨us, v, rfl⟩ : ∃ us v, vs = us ++ [v] := ⟨vs.dropLast, vs.getLast hv, (List.dropLast_concat_getLast hv).symm⟩
  rw [List.map_append] at c1
  obtain ⟨g1, g2, k1, k2, k3, k4, k5⟩ := c1.split (by simp at e3 ⊢; exact e3)
  exact ⟨a, us, v, e1, e2, fin l us [t] [some v] g1 g2 k1 k2 (fun b hb => Or.inl (k3 b hb)) (fun b hb => Or.inl (k4 b hb)) k5⟩
theorem SI.cleared (I : SI K F G H r x) {i : Nat} {l : List T} (e : r[i]? = some (.ls l)) : ∃ a vs, x[i]? = some (some (.ref a)) ∧ H a = some (.lst vs) ∧ SI K F G (upd H a (.lst [])) (r.set i (.ls [])) x := by
  obtain ⟨a, vs, e1, e2, e3, ge, gt, c1, c2, c3, fin⟩ := SI.relist (ts := []) (ys := []) (by simpa only [List.append_nil] using I) I.len e
  have := fin [] [] [] [] (fun _ => False) (fun _ => False) .nil .nil (fun b hb => hb.elim) (fun b hb => hb.elim) (fun b _ z => z)
  exact ⟨a, vs, e1, e2, by simpa only [List.append_nil] using this⟩
theorem SI.listAt (I : SI K F G H r x) {i : Nat} {l : List T} (e : r[i]? = some (.ls l)) : ∃ a vs f, x[i]? = some (some (.ref a)) ∧ H a = some (.lst vs) ∧ RtL K G H l (vs.map some) f := by
  obtain ⟨a, vs, e1, e2, e3, ge, gt, c1, _⟩ := SI.relist (ts := []) (ys := []) (by simpa only [List.append_nil] using I) I.len e
  exact ⟨a, vs, ge, e1, e2, c1⟩
end
section
variable {K : PySem.W.Frag}
theorem get_left {r : Env} {tm : List T} {i : Nat} {t : T} (e : r[i]? = some t) : (r ++ tm)[i]? = some t := by
  rw [List.getElem?_append_left (List.getElem?_eq_some_iff.mp e).1]
  exact e
theorem set_left {r : Env} {tm : List T} {i : Nat} {t u : T} (e : r[i]? = some t) : (r ++ tm).set i u = r.set i u ++ tm := List.set_append_left _ _ (List.getElem?_eq_some_iff.mp e).1
theorem of_left {r : Env} {s : L2.St} {us : List (Option V)} {i : Nat} {t : T} {y : Option V} (hl : r.length = s.length) (e : r[i]? = some t) (h : (s ++ us)[i]? = some y) : s[i]? = some y := by
  rw [List.getElem?_append_left (by have := (List.getElem?_eq_some_iff.mp e).1; omega)] at h
  exact h
def isLs : Option T → Bool
  | some (.ls _) => true
  | _ => false
theorem isLs_of {o : Option T} (h : isLs o = true) : ∃ l, o = some (.ls l) := by
  cases o with
  | none => cases h
  | some t => cases t with
    | ls l => exact ⟨l, rfl⟩
    | _ => cases h
def isFz : Option T → Bool
  | some (.fz _) => true
  | _ => false
theorem isFz_of {o : Option T} (h : isFz o = true) : ∃ l, o = some (.fz l) := by
  cases o with
  | none => cases h
  | some t => cases t with
    | fz l => exact ⟨l, rfl⟩
    | _ => cases h
/-- name.append(e) -/
def dAppend (i : Nat) (f : MD) : ED := fun r => if isLs r[i]? = true then (f r).bind fun p => match p.2[i]? with
  | some (.ls l) => if l.length < 1000000 then some (.sh .non, p.2.set i (.ls (l ++ [p.1]))) else none
  | _ => none
  else none
theorem de_append {i : Nat} {te : TE} {f : MD} (h : DM K te f) : DE K (tBM K "list" rAppend (tVar i) (tCons te tNil)) (dAppend i f) := fun F G H r s tm us w r' I hl e Q q => by
  unfold dAppend at e
  split at e
  case isFalse => cases e
  rename_i hls
  obtain ⟨⟨t, r1⟩, e1, e⟩ := Option.bind_eq_some_iff.mp e
  dsimp only at e
  split at e
  · rename_i l hr
    split at e
    · rename_i c
      cases e
      obtain ⟨l0, hr0⟩ := isLs_of hls
      obtain ⟨a, vs0, f0, z1, z2, _⟩ := I.listAt (get_left hr0)
      have z1' := of_left hl hr0 z1
      refine ⟨.ref a, z1', Or.inl ⟨rfl, _, Or.inl (Or.inl z2)⟩, ?_⟩
      refine h F G H r s tm us t r1 I hl e1 _ fun v G1 H1 x1 I1 l1 => ?_
      simp only [← List.append_assoc] at I1
      have hl2 : (r1 ++ tm).length = (s ++ us).length := by have := I1.len; simp at this ⊢; omega
      obtain ⟨b, vs, y1, y2, y3, J⟩ := I1.push hl2 (get_left hr)
      have y1' := of_left l1 hr y1
      rw [z1'] at y1'
      cases y1'
      rw [set_left hr] at J
      exact ⟨a, vs, v, rfl, rfl, y2, bigl (y3 ▸ c), q _ G1 _ x1 (by simpa only [W.tm, W.vl, List.append_nil] using J) (by rw [List.length_set]; exact l1) .non⟩
    · cases e
  · cases e
/-- name.pop() -/
def dPop (i : Nat) : ED := fun r => match r[i]? with
  | some (.ls l) => (l.getLast?).bind fun t => some (resW t, r.set i (.ls l.dropLast))
  | _ => none
theorem res_in {F : Fx} {G H : Hp} {r : Env} {s : L2.St} {tm : List T} {us : List (Option V)} {t : T} {v : V} (I : SI K F G H (r ++ (tm ++ [t])) (s ++ (us ++ [some v]))) (hl : (r ++ tm).length = (s ++ us).length) : SI K F G H (r ++ (tm ++ (resW t).tm)) (s ++ (us ++ (resW t).vl v)) ∧ WV K G s (resW t) v := by
  cases t with
  | fz d =>
    have I' : SI K F G H ((r ++ tm) ++ [.fz d]) ((s ++ us) ++ [some v]) := by simpa only [List.append_assoc] using I
    obtain ⟨f, hr, _⟩ := I'.own
    obtain ⟨_, _, _, k2, _⟩ := hr.split hl
    refine ⟨by simpa only [resW, W.tm, W.vl, List.append_nil] using I'.drop hl, ?_⟩
    cases k2 with | cons a1 _ _ _ _ => cases a1 with | fz q => exact q
  | un => exact ⟨I, trivial⟩
  | ls l => exact ⟨I, trivial⟩
  | tp l => exact ⟨I, trivial⟩
  | dk ks l => exact ⟨I, trivial⟩
  | dt ks l => exact ⟨I, trivial⟩
theorem de_pop {i : Nat} : DE K (tBM0 K "list" rPop (tVar i)) (dPop i) := fun F G H r s tm us w r' I hl e Q q => by
  unfold dPop at e
  split at e
  · rename_i l hr
    obtain ⟨t, e1, e⟩ := Option.bind_eq_some_iff.mp e
    cases e
    obtain ⟨l0, rfl⟩ : ∃ l0, l = l0 ++ [t] := by
      have hn : l ≠ [] := fun z => by subst z; cases e1
      refine ⟨l.dropLast, ?_⟩
      rw [List.getLast?_eq_some_getLast hn] at e1
      cases e1
      exact (List.dropLast_concat_getLast hn).symm
    obtain ⟨a, vs, v, z1, z2, J⟩ := I.popped (get_left hr)
    rw [set_left hr, List.append_assoc, List.append_assoc] at J
    rw [List.dropLast_concat] at *
    have lr : (r.set i (.ls l0) ++ tm).length = (s ++ us).length := by have := I.len; simp at this ⊢; omega
    obtain ⟨J1, J2⟩ := res_in J lr
    refine ⟨.ref a, of_left hl hr z1, Or.inl ⟨rfl, _, Or.inl (Or.inl z2)⟩, a, vs ++ [v], v, rfl, rfl, z2, by simp, ?_⟩
    rw [List.dropLast_concat]
    exact q v G _ (Ex.refl G) J1 (by rw [List.length_set]; exact hl) J2
  · cases e
/-- name.clear() -/
def dClear (i : Nat) : ED := fun r => match r[i]? with
  | some (.ls _) => some (.sh .non, r.set i (.ls []))
  | _ => none
theorem de_clear {i : Nat} : DE K (tBM0 K "list" rClear (tVar i)) (dClear i) := fun F G H r s tm us w r' I hl e Q q => by
  unfold dClear at e
  split at e
  · rename_i l hr
    cases e
    obtain ⟨a, vs, z1, z2, J⟩ := I.cleared (get_left hr)
    rw [set_left hr] at J
    exact ⟨.ref a, of_left hl hr z1, Or.inl ⟨rfl, _, Or.inl (Or.inl z2)⟩, a, vs, rfl, rfl, z2, q _ G _ (Ex.refl G) (by simpa only [W.tm, W.vl, List.append_nil] using J) (by rw [List.length_set]; exact hl) .non⟩
  · cases e
/-- name[e], an own list's shared item -/
def dIxO (i : Nat) (f : FD) : ED := fun r => if isLs r[i]? = true then (f r).bind fun p => match p.1, p.2[i]? with
  | .int k, some (.ls l) => (atI l k).bind fun t => match t with
    | .fz d => some (.sh d, p.2)
    | _ => none
  | _, _ => none
  else none
theorem RtL.get {G H : Hp} {l : List T} {ys : List (Option V)} {f : Fp} {j : Nat} {t : T} (h : RtL K G H l ys f) (e : l[j]? = some t) : ∃ y g, ys[j]? = some y ∧ Rt K G H t y g := by
  obtain ⟨y, g, _, b1, b2, _⟩ := h.at e
  exact ⟨y, g, b1, b2⟩
theorem de_ixO {i : Nat} {ti : TE} {f : FD} (h : DF K ti f) : DE K (tOp (rIx K) (tVar i) ti) (dIxO i f) := fun F G H r s tm us w r' I hl e Q q => by
  unfold dIxO at e
  split at e
  case isFalse => cases e
  rename_i hls
  obtain ⟨⟨d, r1⟩, e1, e⟩ := Option.bind_eq_some_iff.mp e
  dsimp only at e
  split at e
  · rename_i k l hr
    obtain ⟨t, e2, e⟩ := Option.bind_eq_some_iff.mp e
    split at e
    · rename_i dd
      cases e
      obtain ⟨l0, hr0⟩ := isLs_of hls
      obtain ⟨a, vs0, f0, z1, z2, _⟩ := I.listAt (get_left hr0)
      refine ⟨.ref a, of_left hl hr0 z1, ?_⟩
      refine h F G H r s tm us _ _ I hl e1 _ fun v G1 H1 x1 I1 l1 hd => ?_
      cases hd
      obtain ⟨b, vs, f1, y1, y2, y3⟩ := I1.listAt (get_left hr)
      have y1' := of_left l1 hr y1
      rw [of_left hl hr0 z1] at y1'
      cases y1'
      unfold L2.atI at e2
      obtain ⟨j, e3, e4⟩ := Option.bind_eq_some_iff.mp e2
      obtain ⟨y, g, e5, e6⟩ := y3.get e4
      cases e6 with | @fz _ v _ q1 =>
        have hlen := y3.length
        rw [List.length_map] at hlen
        rw [List.getElem?_map] at e5
        obtain ⟨v', e7, e8⟩ := Option.map_eq_some_iff.mp e5
        cases e8
        refine Or.inl ⟨a, vs, _, v, rfl, rfl, Or.inl (Or.inl y2), ?_, q _ G1 H1 x1 (by simpa only [W.tm, W.vl, List.append_nil] using I1) l1 q1⟩
        unfold L2.atI
        rw [← hlen, e3]
        exact e7
    · cases e
  · cases e
/-- name[e] = v -/
def gdIx (i : Nat) (f : FD) : GD := fun r t => if isLs r[i]? = true then (f r).bind fun p => match p.1, p.2[i]? with
  | .int k, some (.ls l) => (ixN l.length k).bind fun j => some (p.2.set i (.ls (l.set j t)))
  | _, _ => none
  else none
theorem dg_ix {A : Nat → Bool} {i : Nat} {ti : TE} {f : FD} (h : DF K ti f) : DG K A (L2.gSub (tVar i) ti rSetL) (gdIx i f) := fun F P G H r s t v tm us r' a I hl p e Q q => by
  unfold gdIx at e
  split at e
  case isFalse => cases e
  rename_i hls
  obtain ⟨⟨d, r1⟩, e1, e⟩ := Option.bind_eq_some_iff.mp e
  dsimp only at e
  split at e
  · rename_i k l hr
    obtain ⟨j, e2, e⟩ := Option.bind_eq_some_iff.mp e
    cases e
    obtain ⟨l0, hr0⟩ := isLs_of hls
    obtain ⟨b, vs0, f0, z1, z2, _⟩ := I.listAt (get_left hr0)
    refine ⟨.ref b, of_left hl hr0 z1, ?_⟩
    refine h F G H r s (t :: tm) (some v :: us) _ r1 I hl e1 _ fun v1 G1 H1 x1 I1 l1 hd => ?_
    cases hd
    have tl : tm.length = us.length := by have := I1.len; simp at this; omega
    have I2 : SI K F G1 H1 ((r1 ++ tm) ++ [t]) ((s ++ us) ++ [some v]) := by
      obtain ⟨f, hr1, hf⟩ := I1.own
      obtain ⟨g1, g2, k1, k2, k3, k4, k5⟩ := hr1.split l1
      cases k2 with | @cons _ _ _ _ _ gt ht a1 a2 a3 a4 a5 =>
        have m1 := a2.app k1 fun b hb z => k5 b hb (a4 b z)
        have m2 : RtL K G1 H1 [t] [some v] gt := .cons a1 (h := fun _ => False) .nil (fun b hb => hb) (fun b hb => hb.elim) (fun b _ z => z)
        exact I1.same hf (m2.app m1 fun b hb z => hb.elim (fun w => k5 b w (a3 b z)) fun w => a5 b z w) fun b hb => hb.elim (fun w => w.elim (k3 b) fun w => k4 b (a4 b w)) fun w => k4 b (a3 b w)
    obtain ⟨c, vs, y1, y2, y3, J⟩ := I2.put (by simp; omega) (get_left hr) j
    have y1' := of_left l1 hr y1
    rw [of_left hl hr0 z1] at y1'
    cases y1'
    rw [set_left hr] at J
    exact ⟨b, vs, _, j, rfl, rfl, y2, by rw [← y3]; exact e2, q s G1 _ x1 J (by rw [List.length_set]; exact l1) rfl p⟩
  · cases e
/-! ### slices -/
abbrev PD := Env → Option (Option Int × Env)
def DP (K : PySem.W.Frag) (tp : TO) (f : PD) : Prop := ∀ F G H r s tm us o r', SI K F G H (r ++ tm) (s ++ us) → r.length = s.length → f r = some (o, r') → ∀ Q : Option Int → Hp → Prop, (∀ G' H', Ex G G' → SI K F G' H' (r' ++ tm) (s ++ us) → r'.length = s.length → Q o H') → tp s H Q
def pNo : PD := fun r => some (none, r)
def pAt (f : FD) : PD := fun r => (f r).bind fun p => match p.1 with
  | .int i => some (some i, p.2)
  | _ => none
theorem dp_no : DP K tNoPart pNo := fun F G H r s tm us o r' I hl e Q q => by
  cases e
  exact q G H (Ex.refl G) I hl
theorem dp_at {te : TE} {f : FD} (h : DF K te f) : DP K (tPart te) (pAt f) := fun F G H r s tm us o r' I hl e Q q => by
  obtain ⟨⟨d, r1⟩, e1, e⟩ := Option.bind_eq_some_iff.mp e
  dsimp only at e
  split at e
  · cases e
    refine h F G H r s tm us _ _ I hl e1 _ fun v G1 H1 x1 I1 l1 hd => ?_
    cases hd
    exact ⟨_, rfl, q G1 H1 x1 I1 l1⟩
  · cases e
def cutD (l : List D) (lo hi : Option Int) : List D := (l.drop (HT.sIx l.length 0 lo)).take (HT.sIx l.length l.length hi - HT.sIx l.length 0 lo)
theorem RpL.cut {G : Hp} {l : List D} {vs : List V} (q : RpL K G l vs) (lo hi : Option Int) : RpL K G (cutD l lo hi) (cutV vs lo hi) := by
  unfold cutD cutV
  rw [q.length]
  exact (q.drop _).take _
def DSl (K : PySem.W.Frag) (rl : V → Option Int → Option Int → Hp → VK → Prop) (g : D → Option Int → Option Int → Option Rs) : Prop := ∀ G H x v lo hi z, Sub G H → Rp K G x v → g x lo hi = some z → ∀ Q : VK, RsOk K G H Q z → rl v lo hi H Q
def dSl (g : D → Option Int → Option Int → Option Rs) (f : FD) (lo hi : PD) : ED := fun r => (f r).bind fun p => (lo p.2).bind fun a => (hi a.2).bind fun b => (g p.1 a.1 b.1).bind fun z => some (z.w, b.2)
theorem de_sl {rl : V → Option Int → Option Int → Hp → VK → Prop} {g : D → Option Int → Option Int → Option Rs} {te : TE} {tl th : TO} {f : FD} {lo hi : PD} (hg : DSl K rl g) (h : DF K te f) (h1 : DP K tl lo) (h2 : DP K th hi) : DE K (tSl rl te tl th) (dSl g f lo hi) := fun F G H r s tm us w r' I hl e Q q => by
  obtain ⟨⟨d, r1⟩, e1, e⟩ := Option.bind_eq_some_iff.mp e
  obtain ⟨⟨a, r2⟩, e2, e⟩ := Option.bind_eq_some_iff.mp e
  obtain ⟨⟨b, r3⟩, e3, e⟩ := Option.bind_eq_some_iff.mp e
  obtain ⟨z, e4, e⟩ := Option.bind_eq_some_iff.mp e
  cases e
  refine h F G H r s tm us d r1 I hl e1 _ fun v G1 H1 x1 I1 l1 hd => h1 F G1 H1 r1 s tm us a r2 I1 l1 e2 _ fun G2 H2 x2 I2 l2 => h2 F G2 H2 r2 s tm us b _ I2 l2 e3 _ fun G3 H3 x3 I3 l3 => ?_
  exact hg G3 H3 d v a b z I3.gh (hd.mono (x2.trans x3)) e4 Q (rs_ok I3 l3 fun v G' H' x4 I4 l4 hw => q v G' H' (((x1.trans x2).trans x3).trans x4) I4 l4 hw)
def gSlT : D → Option Int → Option Int → Option Rs
  | .tup l, lo, hi => some (.newT (cutD l lo hi))
  | _, _, _ => none
theorem sl_all {n : Nat} {l : List D} (hn : l.length = n) {lo hi : Option Int} (h1 : HT.sIx n 0 lo = 0) (h2 : HT.sIx n n hi = n) : cutD l lo hi = l := by
  unfold cutD
  rw [hn, h1, h2, ← hn]
  simp
theorem dsl_tup : DSl K (rSlA K) gSlT := fun G H x v lo hi z sb q e Q k => by
  unfold gSlT at e
  split at e
  · cases e
    cases q with | tup a b =>
      refine ⟨_, _, rfl, sub_t trivial sb a, fun z => k.1 _ ?_, fun _ p hp => k.2 p _ hp (b.cut lo hi)⟩
      rw [sl_all b.length z.1 z.2]
      exact .tup a b
  · cases e
def gSlL : D → Option Int → Option Int → Option Rs
  | .lst l, lo, hi => some (.newL (cutD l lo hi))
  | _, _, _ => none
theorem dsl_lst : DSl K (rSlL K) gSlL := fun G H x v lo hi z sb q e Q k => by
  unfold gSlL at e
  split at e
  · cases e
    cases q with | lst a b => exact ⟨_, _, rfl, Or.inl (Or.inl (sub_ex sb a)), fun p hp => k p _ hp (b.cut lo hi)⟩
  · cases e
/-! ### a < b < c -/
def dChain (g g' : List D → Option Rs) (fa fb fc : FD) : ED := fun r => (fa r).bind fun p => (fb p.2).bind fun p2 => (g [p.1, p2.1]).bind fun z => match z with
  | .val (.bl true) => (fc p2.2).bind fun p3 => (g' [p2.1, p3.1]).bind fun z' => some (z'.w, p3.2)
  | .val (.bl false) => some (.sh (.bl false), p2.2)
  | _ => none
theorem de_chain {ta tb tc : TE} {fa fb fc : FD} {rl rl' : R2} {g g' : List D → Option Rs} (ha : DF K ta fa) (hb : DF K tb fb) (hc : DF K tc fc) (h1 : DC K (rl2 rl) g) (h2 : DC K (rl2 rl') g') : DE K (tChain rl rl' ta tb tc) (dChain g g' fa fb fc) := fun F G H r s tm us w r' I hl e Q q => by
  obtain ⟨⟨d1, r1⟩, e1, e⟩ := Option.bind_eq_some_iff.mp e
  obtain ⟨⟨d2, r2⟩, e2, e⟩ := Option.bind_eq_some_iff.mp e
  obtain ⟨z, e3, e⟩ := Option.bind_eq_some_iff.mp e
  refine ha F G H r s tm us d1 r1 I hl e1 _ fun v G1 H1 x1 I1 l1 q1 => hb F G1 H1 r1 s tm us d2 r2 I1 l1 e2 _ fun u G2 H2 x2 I2 l2 q2 => ?_
  refine h1 G2 H2 [d1, d2] [v, u] z I2.gh I2.pl (.cons (q1.mono x2) (.cons q2 .nil)) e3 _ ?_
  dsimp only at e
  split at e
  · obtain ⟨⟨d3, r3⟩, e4, e⟩ := Option.bind_eq_some_iff.mp e
    obtain ⟨z', e5, e⟩ := Option.bind_eq_some_iff.mp e
    cases e
    intro w0 hw0
    cases hw0
    refine ⟨true, rfl, ?_⟩
    rw [if_pos rfl]
    exact hc F G2 H2 r2 s tm us d3 _ I2 l2 e4 _ fun w3 G3 H3 x3 I3 l3 q3 => h2 G3 H3 [d2, d3] [u, w3] z' I3.gh I3.pl (.cons (q2.mono x3) (.cons q3 .nil)) e5 Q (rs_ok I3 l3 fun v G' H' x4 I4 l4 hw => q v G' H' (((x1.trans x2).trans x3).trans x4) I4 l4 hw)
  · cases e
    intro w0 hw0
    cases hw0
    refine ⟨false, rfl, ?_⟩
    rw [if_neg (by decide)]
    exact q _ G2 H2 (x1.trans x2) (by simpa only [W.tm, W.vl, List.append_nil] using I2) l2 (.bl false)
  · cases e
/-! ### name op= e -/
def dAug (i : Nat) (g : List D → Option Rs) (f : FD) : SD := fun r => if isFz r[i]? = true then (f r).bind fun p => match p.2[i]? with
  | some (.fz d) => (g [d, p.1]).bind fun z => match z with
    | .val d' => some (.nx (p.2.set i (.fz d')))
    | _ => none
  | _ => none
  else none
theorem ds_aug {A : Nat → Bool} {X : WX} {i : Nat} {g : List D → Option Rs} {te : TE} {rl : R2} {f : FD} (hA : A i = true) (h : DF K te f) (hg : DC K (rl2 rl) g) : DS K A X (tAug i te rl) (dAug i g f) := fun F P G H r s o a I p e E q => by
  unfold dAug at e
  split at e
  case isFalse => cases e
  rename_i hfz
  obtain ⟨⟨d1, r1⟩, e1, e⟩ := Option.bind_eq_some_iff.mp e
  dsimp only at e
  split at e
  · rename_i d hr
    obtain ⟨z, e2, e⟩ := Option.bind_eq_some_iff.mp e
    cases z with
    | newT l => cases e
    | newL l => cases e
    | val d' =>
      cases e
      obtain ⟨d0, hr0⟩ := isFz_of hfz
      obtain ⟨f0, k0, _⟩ := I.own
      obtain ⟨y, _, k1, k2⟩ := k0.get hr0
      cases k2 with | @fz _ v _ _ =>
        refine ⟨v, k1, h F G H r s [] [] d1 r1 (by simpa only [List.append_nil] using I) I.len e1 _ fun u G1 H1 x1 I1 l1 q1 => ?_⟩
        rw [List.append_nil, List.append_nil] at I1
        obtain ⟨f1, k3, _⟩ := I1.own
        obtain ⟨y, gg, k4, k5⟩ := k3.get hr
        rw [k1] at k4
        cases k4
        cases k5 with | fz qd =>
          refine hg G1 H1 [d, d1] [v, u] _ I1.gh I1.pl (.cons qd (.cons q1 .nil)) e2 _ fun w hw => ?_
          have J := SI.into (tm := []) (us := []) (t := .fz d') (y := some w) (by simpa using I1.fzs (l := [d']) (vs := [w]) (.cons hw .nil)) I1.len i
          exact q _ G1 H1 x1 (by simpa only [List.append_nil] using J) (p.set (a i hA))
  · cases e
end
end Q

set_option Elab.async false
set_option linter.all false
set_option maxRecDepth 100000
set_option maxHeartbeats 2000000
namespace Q
open PySem PySem.Spec PyProof.Rows L2
section
variable {K : PySem.W.Frag}
/-! ### walks over two things -/
def zipD (a b : List D) : List D := List.zipWith (fun x y => .tup [x, y]) a b
theorem walk_z {a b : Addr} {l m : List D} {xs ys : List V} {G0 : Hp} (h1 : G0 a = some (.lst xs)) (q1 : RpL K G0 l xs) (h2 : G0 b = some (.lst ys)) (q2 : RpL K G0 m ys) : WalkD K (Itz K a b) (zipD l m) G0 := fun F G H r x xg I i => by
  have s1 : SqL K H a xs := Or.inl (Or.inl (sub_ex I.gh (xg _ _ h1)))
  have s2 : SqL K H b ys := Or.inl (Or.inl (sub_ex I.gh (xg _ _ h2)))
  unfold zipD
  refine ⟨fun d hd => ?_, fun hl => ?_⟩
  · rw [List.getElem?_zipWith] at hd
    cases e1 : l[i]? with
    | none => rw [e1] at hd; cases hd
    | some dx =>
      cases e2 : m[i]? with
      | none => rw [e1, e2] at hd; cases hd
      | some dy =>
        rw [e1, e2] at hd
        cases hd
        obtain ⟨vx, z1, z2⟩ := q1.get e1
        obtain ⟨vy, z3, z4⟩ := q2.get e2
        refine ⟨⟨xs, ys, vx, vy, s1, s2, z1, z3⟩, fun v H' hv => ?_⟩
        obtain ⟨p, x', y', rfl, hp, rfl, k1, k2⟩ := hv
        have := k1 xs s1
        rw [z1] at this
        cases this
        have := k2 ys s2
        rw [z3] at this
        cases this
        have en : Ex G (upd G p (.tup [vx, vy])) := Ex.new (I.Gnone hp)
        exact ⟨_, en, I.laid hp (o := .tup [vx, vy]) (fun _ _ z => HO.noConfusion z), .tup (Or.inl (Or.inl upd_same)) (.cons ((z2.mono xg).mono en) (.cons ((z4.mono xg).mono en) .nil))⟩
  · rw [List.length_zipWith] at hl
    refine ⟨xs, ys, s1, s2, ?_⟩
    rw [← q1.length, ← q2.length]
    omega
def dZip (f : FDs) : ID := fun r => (f r).bind fun p => match p.1 with
  | [.lst a, .lst b] => some (zipD a b, p.2)
  | _ => none
theorem di_zip {ta : TA} {f : FDs} (h : DFs K ta f) : DI K (iZip K ta) (dZip f) := fun F G H r s tm us l r' I hl e R q => by
  obtain ⟨⟨ds, r1⟩, e1, e⟩ := Option.bind_eq_some_iff.mp e
  dsimp only at e
  split at e
  · cases e
    refine h F G H r s tm us _ _ I hl e1 _ fun vs G1 H1 x1 I1 l1 hv => ?_
    cases hv with | cons a hv => cases hv with | cons b hv =>
      cases hv
      cases a with | lst a1 a2 => cases b with | lst b1 b2 =>
        exact ⟨_, _, _, _, rfl, Or.inl (Or.inl (sub_ex I1.gh a1)), Or.inl (Or.inl (sub_ex I1.gh b1)), q _ G1 H1 x1 I1 l1 (walk_z a1 a2 b1 b2)⟩
  · cases e
def enumD (a : List D) : List D := a.zipIdx.map fun p => .tup [.int (p.2 : Nat), p.1]
theorem walk_e {a : Addr} {l : List D} {xs : List V} {G0 : Hp} (h1 : G0 a = some (.lst xs)) (q1 : RpL K G0 l xs) : WalkD K (Ite K a) (enumD l) G0 := fun F G H r x xg I i => by
  have s1 : SqL K H a xs := Or.inl (Or.inl (sub_ex I.gh (xg _ _ h1)))
  unfold enumD
  refine ⟨fun d hd => ?_, fun hl => ?_⟩
  · rw [List.getElem?_map, List.getElem?_zipIdx] at hd
    cases e1 : l[i]? with
    | none => rw [e1] at hd; cases hd
    | some dx =>
      rw [e1] at hd
      cases hd
      obtain ⟨vx, z1, z2⟩ := q1.get e1
      refine ⟨⟨xs, vx, s1, z1⟩, fun v H' hv => ?_⟩
      obtain ⟨p, x', rfl, hp, rfl, k1⟩ := hv
      have := k1 xs s1
      rw [z1] at this
      cases this
      have en : Ex G (upd G p (.tup [.int (i : Nat), vx])) := Ex.new (I.Gnone hp)
      refine ⟨_, en, I.laid hp (o := .tup [.int (i : Nat), vx]) (fun _ _ z => HO.noConfusion z), .tup (Or.inl (Or.inl upd_same)) (.cons ?_ (.cons ((z2.mono xg).mono en) .nil))⟩
      dsimp only
      rw [Nat.zero_add]
      exact .int _
  · rw [List.length_map, List.length_zipIdx] at hl
    exact ⟨xs, s1, by rw [← q1.length]; exact hl⟩
def dEnum (f : FDs) : ID := fun r => (f r).bind fun p => match p.1 with
  | [.lst a] => some (enumD a, p.2)
  | _ => none
theorem di_enum {ta : TA} {f : FDs} (h : DFs K ta f) : DI K (iEnum K ta) (dEnum f) := fun F G H r s tm us l r' I hl e R q => by
  obtain ⟨⟨ds, r1⟩, e1, e⟩ := Option.bind_eq_some_iff.mp e
  dsimp only at e
  split at e
  · cases e
    refine h F G H r s tm us _ _ I hl e1 _ fun vs G1 H1 x1 I1 l1 hv => ?_
    cases hv with | cons a hv =>
      cases hv
      cases a with | lst a1 a2 => exact ⟨_, _, rfl, Or.inl (Or.inl (sub_ex I1.gh a1)), q _ G1 H1 x1 I1 l1 (walk_e a1 a2)⟩
  · cases e
/-! ### the slots of a comprehension -/
def wipeT (r : Env) : List Nat → Env
  | [] => r
  | v :: vs => (wipeT r vs).set v .un
theorem wipeT_len (r : Env) : ∀ vs : List Nat, (wipeT r vs).length = r.length
  | [] => rfl
  | v :: vs => by unfold wipeT; rw [List.length_set, wipeT_len r vs]
theorem SI.reset {F : Fx} {G H : Hp} {r : Env} {s : L2.St} {tm : List T} {us : List (Option V)} (I : SI K F G H (r ++ tm) (s ++ us)) (hl : r.length = s.length) {t : T} {y : Option V} (h : Rt K G H t y (fun _ => False)) (i : Nat) : SI K F G H (r.set i t ++ tm) (s.set i y ++ us) := by
  refine SI.into ?_ hl i
  obtain ⟨f, hr, hf⟩ := I.own
  obtain ⟨g1, g2, k1, k2, k3, k4, k5⟩ := hr.split hl
  have m : RtL K G H (t :: tm) (y :: us) g2 := .cons (g := fun _ => False) h k2 (fun b hb => hb.elim) (fun b hb => hb) (fun b hb => hb.elim)
  exact I.same hf (m.app k1 k5) fun b hb => hb.elim (k3 b) (k4 b)
theorem SI.wiped {F : Fx} {G H : Hp} {r : Env} {s : L2.St} {tm : List T} {us : List (Option V)} (I : SI K F G H (r ++ tm) (s ++ us)) (hl : r.length = s.length) : ∀ vs : List Nat, SI K F G H (wipeT r vs ++ tm) (wipe s vs ++ us)
  | [] => I
  | v :: vs => (SI.wiped I hl vs).reset (by rw [wipeT_len, wipe_length]; exact hl) .un v
theorem wipe_in {s : L2.St} {i : Nat} : ∀ {vs : List Nat}, i ∈ vs → i < s.length → (wipe s vs)[i]? = some none
  | v :: vs, h, hi => by
    unfold wipe
    by_cases c : v = i
    · subst c
      rw [List.getElem?_set_self (by rw [wipe_length]; exact hi)]
    · rw [List.getElem?_set_ne c]
      exact wipe_in ((List.mem_cons.mp h).resolve_left fun z => c z.symm) hi
theorem wipe_same {s s' : L2.St} {vs : List Nat} (hl : s.length = s'.length) (h : ∀ i : Nat, i ∉ vs → s[i]? = s'[i]?) : wipe s vs = wipe s' vs := by
  apply List.ext_getElem?
  intro i
  by_cases c : i ∈ vs
  · by_cases hi : i < s.length
    · rw [wipe_in c hi, wipe_in c (by omega)]
    · rw [List.getElem?_eq_none (by rw [wipe_length]; omega), List.getElem?_eq_none (by rw [wipe_length]; omega)]
  · rw [wipe_out c, wipe_out c]
    exact h i c
theorem of_wipe {s s' : L2.St} {vs : List Nat} (h : wipe s vs = wipe s' vs) {i : Nat} (c : i ∉ vs) : s[i]? = s'[i]? := by
  rw [← wipe_out (vs := vs) c, h, wipe_out c]
theorem wipe_idem {s : L2.St} {vs : List Nat} : wipe (wipe s vs) vs = wipe s vs := wipe_same (by rw [wipe_length]) fun i c => wipe_out c
theorem wipe_len {s s' : L2.St} {vs : List Nat} (h : wipe s vs = wipe s' vs) : s.length = s'.length := by
  rw [← wipe_length s vs, h, wipe_length]
def slotP (r0 : Env) (i : Nat) : T := match r0[i]? with
  | some t => keepP t
  | none => .un
def restore (r0 : Env) : List Nat → Env → Env
  | [], r => r
  | i :: own, r => (restore r0 own r).set i (slotP r0 i)
def resV (s : L2.St) : List Nat → L2.St → L2.St
  | [], x => x
  | i :: own, x => (resV s own x).set i ((s[i]?).getD none)
theorem restore_len {r0 : Env} : ∀ {own : List Nat} {r : Env}, (restore r0 own r).length = r.length
  | [], r => rfl
  | i :: own, r => by unfold restore; rw [List.length_set]; exact restore_len
theorem resV_len {s : L2.St} : ∀ {own : List Nat} {x : L2.St}, (resV s own x).length = x.length
  | [], r => rfl
  | i :: own, r => by unfold resV; rw [List.length_set]; exact resV_len
theorem resV_get {s : L2.St} : ∀ {own : List Nat} {x : L2.St}, x.length = s.length → (∀ i : Nat, i ∉ own → x[i]? = s[i]?) → resV s own x = s
  | [], x, hl, h => List.ext_getElem? fun i => h i (by simp)
  | j :: own, x, hl, h => by
    unfold resV
    apply List.ext_getElem?
    intro i
    by_cases c : j = i
    · subst c
      by_cases hi : j < s.length
      · rw [List.getElem?_set_self (by rw [resV_len]; omega), List.getElem?_eq_getElem hi]
        rfl
      · rw [List.getElem?_eq_none (by rw [List.length_set, resV_len]; omega), List.getElem?_eq_none (by omega)]
    · rw [List.getElem?_set_ne c]
      have : ∀ (ow : List Nat) (y : L2.St), (i ∈ ow → i < y.length → (resV s ow y)[i]? = some ((s[i]?).getD none)) ∧ (i ∉ ow → (resV s ow y)[i]? = y[i]?) := by
        intro ow
        induction ow with
        | nil => intro y; exact ⟨fun z => by simp at z, fun _ => rfl⟩
        | cons k ow ih =>
          intro y
          unfold resV
          by_cases ck : k = i
          · subst ck
            exact ⟨fun _ hi => by rw [List.getElem?_set_self (by rw [resV_len]; exact hi)], fun z => absurd List.mem_cons_self z⟩
          · rw [List.getElem?_set_ne ck]
            exact ⟨fun z hi => (ih y).1 ((List.mem_cons.mp z).resolve_left fun w => ck w.symm) hi, fun z => (ih y).2 fun w => z (List.mem_cons_of_mem _ w)⟩
      by_cases ci : i ∈ own
      · by_cases hi : i < s.length
        · rw [(this own x).1 ci (by omega), List.getElem?_eq_getElem hi]
          rfl
        · rw [List.getElem?_eq_none (by rw [resV_len]; omega), List.getElem?_eq_none (by omega)]
      · rw [(this own x).2 ci]
        exact h i fun z => (List.mem_cons.mp z).elim (fun w => c w.symm) ci
theorem slotP_rt {G G' H H' : Hp} {r0 : Env} {s : L2.St} {f : Fp} (h : RtL K G H r0 s f) (x : Ex G G') (i : Nat) : Rt K G' H' (slotP r0 i) ((s[i]?).getD none) (fun _ => False) := by
  unfold slotP
  cases e : r0[i]? with
  | none => exact .un
  | some t =>
    obtain ⟨y, g, k1, k2⟩ := h.get e
    rw [k1]
    exact keepP_rt k2 x
theorem SI.restored {F : Fx} {G H : Hp} {r : Env} {x : L2.St} {tm : List T} {us : List (Option V)} {G0 H0 : Hp} {r0 : Env} {s : L2.St} {f : Fp} (I : SI K F G H (r ++ tm) (x ++ us)) (hl : r.length = x.length) (h : RtL K G0 H0 r0 s f) (xg : Ex G0 G) : ∀ own : List Nat, SI K F G H (restore r0 own r ++ tm) (resV s own x ++ us)
  | [] => I
  | i :: own => (SI.restored I hl h xg own).reset (by rw [restore_len, resV_len]; exact hl) (slotP_rt h xg i) i
/-! ### comprehensions -/
def dYes : BD := fun r => some (true, r)
theorem dt_yes : DT K tYes dYes := fun F G H r s tm us b r' I hl e Q q => by
  cases e
  exact q G H (Ex.refl G) I hl
def compD (h : GD) (b : BD) (e : MD) (own : List Nat) : List D → Env → List T → Option (List T × Env)
  | [], r, acc => some (acc, r)
  | d :: l, r, acc => (h (wipeT r own) (.fz d)).bind fun r1 => (b r1).bind fun p => if p.1 = true then (e p.2).bind fun q => if acc.length < 1000000 then compD h b e own l q.2 (acc ++ [q.1]) else none else compD h b e own l p.2 acc
theorem comp_core {F : Fx} {J : It} {l : List D} {G0 G H : Hp} {g : TG} {tt : TT} {te : TE} {h : GD} {b : BD} {e : MD} {own : List Nat} {r r' : Env} {acc acc' : List T} {tm : List T} {us : List (Option V)} {Dn : Addr} {σ σ0 : L2.St} {Nx : Hp → Prop}
    (hJ : WalkD K J l G0) (hg : DG K (fun i => own.contains i) g h) (hb : DT K tt b) (he : DM K te e) (e0 : compD h b e own l r acc = some (acc', r')) (I : SI K F G H (r ++ (tm ++ [.ls acc])) (σ0 ++ (us ++ [some (.ref Dn)]))) (x0 : Ex G0 G) (hw0 : wipe σ0 own = wipe σ own) (hl : r.length = σ0.length)
    (done : ∀ G' H' σ', Ex G G' → SI K F G' H' (r' ++ (tm ++ [.ls acc'])) (σ' ++ (us ++ [some (.ref Dn)])) → r'.length = σ'.length → wipe σ' own = wipe σ own → Nx H') :
    ∃ W : Nat → Nat → Hp → Prop, (∃ m, W 0 m H) ∧ ∀ i m H, W i m H → (J.stop i H ∧ Nx H) ∨ (J.go i H ∧ ∃ N : Hp → Prop, (∀ H', N H' → ∃ m', m' < m ∧ W (i + 1) m' H') ∧ ∀ x H', J.yld i H x H' → g x (wipe σ own) H' fun σ2 H2 => wipe σ2 own = wipe σ own ∧ tt σ2 H2 fun b H3 =>
      if b = true then te σ2 H3 fun y H4 => ∃ ac, H4 Dn = some (.lst ac) ∧ ac.length < sizeLine ∧ N (upd H4 Dn (.lst (ac ++ [y]))) else N H3) := by
  refine ⟨fun i m H' => i ≤ l.length ∧ m = l.length - i ∧ ∃ G1 r1 ac σ1, Ex G G1 ∧ SI K F G1 H' (r1 ++ (tm ++ [.ls ac])) (σ1 ++ (us ++ [some (.ref Dn)])) ∧ r1.length = σ1.length ∧ wipe σ1 own = wipe σ own ∧ compD h b e own (l.drop i) r1 ac = some (acc', r'), ⟨l.length, Nat.zero_le _, rfl, G, r, acc, σ0, Ex.refl G, I, hl, hw0, e0⟩, ?_⟩
  rintro i m H1 ⟨hi, rfl, G1, r1, ac, σ1, x1, I1, l1, w1, e1⟩
  by_cases c : i < l.length
  · have hd : l[i]? = some l[i] := List.getElem?_eq_getElem c
    obtain ⟨go, yl⟩ := (hJ F G1 H1 _ _ (x0.trans x1) I1 i).1 _ hd
    rw [List.drop_eq_getElem_cons c] at e1
    obtain ⟨r2, e2, e3⟩ := Option.bind_eq_some_iff.mp (show (h (wipeT r1 own) (.fz l[i])).bind _ = _ from e1)
    obtain ⟨⟨k, r3⟩, e4, e5⟩ := Option.bind_eq_some_iff.mp e3
    refine Or.inr ⟨go, fun H3 => ∃ G3 r3 ac3 σ3, Ex G G3 ∧ SI K F G3 H3 (r3 ++ (tm ++ [.ls ac3])) (σ3 ++ (us ++ [some (.ref Dn)])) ∧ r3.length = σ3.length ∧ wipe σ3 own = wipe σ own ∧ compD h b e own (l.drop (i + 1)) r3 ac3 = some (acc', r'), fun H3 z => ⟨l.length - (i + 1), by omega, c, rfl, z⟩, fun x H2 y => ?_⟩
    obtain ⟨G2, x2, I2, q2⟩ := yl x H2 y
    have J2 := I2.wiped l1 own
    rw [w1] at J2
    have lw : (wipeT r1 own).length = (wipe σ own).length := by rw [wipeT_len, wipe_length, l1, wipe_len w1]
    have J3 : SI K F G2 H2 (wipeT r1 own ++ (.fz l[i]) :: (tm ++ [.ls ac])) (wipe σ own ++ some x :: (us ++ [some (.ref Dn)])) := by
      obtain ⟨f, hr, hf⟩ := J2.own
      obtain ⟨g1, g2, k1, k2, k3, k4, k5⟩ := hr.split lw
      have m : RtL K G2 H2 (.fz l[i] :: (tm ++ [.ls ac])) (some x :: (us ++ [some (.ref Dn)])) g2 := .cons (g := fun _ => False) (.fz q2) k2 (fun b hb => hb.elim) (fun b hb => hb) (fun b hb => hb.elim)
      exact J2.same hf (m.app k1 k5) fun b hb => hb.elim (k3 b) (k4 b)
    refine hg F (fun j => if own.contains j then none else (wipe σ own)[j]?) G2 H2 _ _ (.fz l[i]) x _ _ r2 (fun j hj => by rw [if_pos hj]) J3 lw (fun j v hv => ?_) e2 _ fun s3 G3 H3 x3 I3 l3 m3 p3 => ?_
    · dsimp only at hv
      split at hv
      · cases hv
      · exact hv
    have w3 : wipe s3 own = wipe σ own := by
      rw [← wipe_idem (s := σ)]
      refine wipe_same m3 fun j cj => ?_
      by_cases hj : j < (wipe σ own).length
      · rw [List.getElem?_eq_getElem hj]
        exact p3 j _ (by dsimp only; rw [if_neg (by simpa using cj), List.getElem?_eq_getElem hj])
      · rw [List.getElem?_eq_none (by omega), List.getElem?_eq_none (by omega)]
    refine ⟨w3, ?_⟩
    have xx := (x1.trans x2).trans x3
    refine hb F G3 H3 r2 s3 _ _ k r3 I3 l3 e4 _ fun G4 H4 x4 I4 l4 => ?_
    cases k with
    | false => exact ⟨G4, r3, ac, s3, xx.trans x4, I4, l4, w3, e5⟩
    | true =>
      obtain ⟨⟨t, r5⟩, e6, e7⟩ := Option.bind_eq_some_iff.mp (show (e r3).bind _ = _ from e5)
      dsimp only at e7
      split at e7
      · rename_i cl
        rw [if_pos rfl]
        refine he F G4 H4 r3 s3 _ _ t r5 I4 l4 e6 _ fun y G5 H5 x5 I5 l5 => ?_
        have I6 : SI K F G5 H5 ((r5 ++ (tm ++ [.ls ac])) ++ [t]) ((s3 ++ (us ++ [some (.ref Dn)])) ++ [some y]) := by simpa only [List.append_assoc] using I5
        have lt : tm.length = us.length := by have := I.len; simp at this; omega
        have ix : (r5 ++ (tm ++ [T.ls ac]))[(r5 ++ tm).length]? = some (.ls ac) := by
          rw [← List.append_assoc, List.getElem?_append_right (Nat.le_refl _)]
          simp
        obtain ⟨a, vs, z1, z2, z3, J6⟩ := I6.push (by simp; omega) ix
        have hx : (s3 ++ (us ++ [some (V.ref Dn)]))[(r5 ++ tm).length]? = some (some (.ref Dn)) := by
          rw [← List.append_assoc, List.getElem?_append_right (by simp; omega)]
          simp [l5, lt]
        rw [hx] at z1
        cases z1
        refine ⟨vs, z2, bigl (z3 ▸ cl), G5, r5, ac ++ [t], s3, (xx.trans x4).trans x5, ?_, l5, w3, e7⟩
        rw [← List.append_assoc, List.set_append_right _ _ (Nat.le_refl _)] at J6
        simpa using J6
      · cases e7
  · have ei : i = l.length := by omega
    subst ei
    rw [List.drop_length] at e1
    cases e1
    exact Or.inl ⟨(hJ F G1 H1 _ _ (x0.trans x1) I1 l.length).2 (Nat.le_refl _), done G1 H1 σ1 x1 I1 l1 w1⟩
def dComp (f : ID) (h : GD) (b : BD) (e : MD) (own : List Nat) : ED := fun r => (f r).bind fun p => (compD h b e own p.1 p.2 []).bind fun q => some (.nw (.ls q.1), restore p.2 own q.2)
theorem SI.newList {F : Fx} {G H : Hp} {r : List T} {x : List (Option V)} (I : SI K F G H r x) {p : Addr} (h : H p = none) : SI K F G (upd H p (.lst [])) (r ++ [.ls []]) (x ++ [some (.ref p)]) := SI.pack (ts := []) (vs := []) (by simpa using I) I.len h
theorem comp_end {F : Fx} {G0 G' H0 H' : Hp} {r0 r' : Env} {s σ' : L2.St} {tm : List T} {us : List (Option V)} {acc : List T} {own : List Nat} {y : Option V} (I0 : SI K F G0 H0 (r0 ++ tm) (s ++ us)) (l0 : r0.length = s.length) (xg : Ex G0 G') (I : SI K F G' H' (r' ++ (tm ++ [.ls acc])) (σ' ++ (us ++ [y]))) (hl : r'.length = σ'.length) (w : wipe σ' own = wipe s own) :
    SI K F G' H' (restore r0 own r' ++ (tm ++ [.ls acc])) (s ++ (us ++ [y])) ∧ (restore r0 own r').length = s.length := by
  obtain ⟨f, hr, _⟩ := I0.own
  obtain ⟨g1, _, k1, _⟩ := hr.split l0
  have J := I.restored hl k1 xg own
  rw [resV_get (wipe_len w) fun i c => of_wipe w c] at J
  exact ⟨J, by rw [restore_len, hl, wipe_len w]⟩
theorem de_comp {wi : TI} {g : TG} {tt : TT} {te : TE} {f : ID} {h : GD} {b : BD} {e : MD} {own : List Nat} (hi : DI K wi f) (hg : DG K (fun i => own.contains i) g h) (hb : DT K tt b) (he : DM K te e) : DE K (tLc wi g tt te own) (dComp f h b e own) := fun F G H r s tm us w r' I hl ee Q q => by
  obtain ⟨⟨l, r1⟩, e1, ee⟩ := Option.bind_eq_some_iff.mp ee
  obtain ⟨⟨acc, r2⟩, e2, ee⟩ := Option.bind_eq_some_iff.mp ee
  cases ee
  refine hi F G H r s tm us l r1 I hl e1 _ fun J G1 H1 x1 I1 l1 hJ Dn hD => ?_
  have I2 : SI K F G1 (upd H1 Dn (.lst [])) (r1 ++ (tm ++ [.ls []])) (s ++ (us ++ [some (.ref Dn)])) := by simpa only [List.append_assoc] using I1.newList hD
  exact comp_core hJ hg hb he e2 I2 (Ex.refl G1) rfl l1 fun G' H' σ' xg I3 l3 w3 => by
    obtain ⟨J3, m3⟩ := comp_end I1 l1 xg I3 l3 w3
    exact q _ G' H' (x1.trans xg) J3 m3 trivial
/-- two clauses -/
def comp2D (h : GD) (b : BD) (f1 : ID) (h1 : GD) (b1 : BD) (e : MD) (own own1 : List Nat) : List D → Env → List T → Option (List T × Env)
  | [], r, acc => some (acc, r)
  | d :: l, r, acc => (h (wipeT r own) (.fz d)).bind fun r1 => (b r1).bind fun p => if p.1 = true then (f1 p.2).bind fun q => (compD h1 b1 e own1 q.1 q.2 acc).bind fun z => comp2D h b f1 h1 b1 e own own1 l z.2 z.1 else comp2D h b f1 h1 b1 e own own1 l p.2 acc
def dComp2 (f : ID) (h : GD) (b : BD) (f1 : ID) (h1 : GD) (b1 : BD) (e : MD) (own own1 : List Nat) : ED := fun r => (f r).bind fun p => (comp2D h b f1 h1 b1 e own own1 p.1 p.2 []).bind fun q => some (.nw (.ls q.1), restore p.2 own q.2)
theorem de_comp2 {wi wi1 : TI} {g g1 : TG} {tt tt1 : TT} {te : TE} {f f1 : ID} {h h1 : GD} {b b1 : BD} {e : MD} {own own1 : List Nat} (hv : ∀ i ∈ own1, i ∈ own) (hi : DI K wi f) (hg : DG K (fun i => own.contains i) g h) (hb : DT K tt b) (hi1 : DI K wi1 f1) (hg1 : DG K (fun i => own1.contains i) g1 h1) (hb1 : DT K tt1 b1) (he : DM K te e) :
    DE K (tLc2 wi g tt wi1 g1 tt1 te own own1) (dComp2 f h b f1 h1 b1 e own own1) := fun F G H r s tm us w r' I hl ee Q q => by
  obtain ⟨⟨l, r1⟩, e1, ee⟩ := Option.bind_eq_some_iff.mp ee
  obtain ⟨⟨acc, r2⟩, e2, ee⟩ := Option.bind_eq_some_iff.mp ee
  cases ee
  refine hi F G H r s tm us l r1 I hl e1 _ fun J G1 H1 x1 I1 l1 hJ Dn hD => ?_
  have I2 : SI K F G1 (upd H1 Dn (.lst [])) (r1 ++ (tm ++ [.ls []])) (s ++ (us ++ [some (.ref Dn)])) := by simpa only [List.append_assoc] using I1.newList hD
  refine ⟨fun i m H' => i ≤ l.length ∧ m = l.length - i ∧ ∃ G2 rr ac σ1, Ex G1 G2 ∧ SI K F G2 H' (rr ++ (tm ++ [.ls ac])) (σ1 ++ (us ++ [some (.ref Dn)])) ∧ rr.length = σ1.length ∧ wipe σ1 own = wipe s own ∧ comp2D h b f1 h1 b1 e own own1 (l.drop i) rr ac = some (acc, r2), ⟨l.length, Nat.zero_le _, rfl, G1, r1, [], s, Ex.refl G1, I2, l1, rfl, e2⟩, ?_⟩
  rintro i m H3 ⟨hi, rfl, G3, r3, ac, σ3, x3, I3, l3, w3, e3⟩
  by_cases c : i < l.length
  · have hd : l[i]? = some l[i] := List.getElem?_eq_getElem c
    obtain ⟨go, yl⟩ := (hJ F G3 H3 _ _ x3 I3 i).1 _ hd
    rw [List.drop_eq_getElem_cons c] at e3
    obtain ⟨r4, e4, e5⟩ := Option.bind_eq_some_iff.mp (show (h (wipeT r3 own) (.fz l[i])).bind _ = _ from e3)
    obtain ⟨⟨k, r5⟩, e6, e7⟩ := Option.bind_eq_some_iff.mp e5
    refine Or.inr ⟨go, fun H' => ∃ G2 rr ac σ1, Ex G1 G2 ∧ SI K F G2 H' (rr ++ (tm ++ [.ls ac])) (σ1 ++ (us ++ [some (.ref Dn)])) ∧ rr.length = σ1.length ∧ wipe σ1 own = wipe s own ∧ comp2D h b f1 h1 b1 e own own1 (l.drop (i + 1)) rr ac = some (acc, r2), fun H' z => ⟨l.length - (i + 1), by omega, c, rfl, z⟩, fun x H4 y => ?_⟩
    obtain ⟨G4, x4, I4, q4⟩ := yl x H4 y
    have J2 := I4.wiped l3 own
    rw [w3] at J2
    have lw : (wipeT r3 own).length = (wipe s own).length := by rw [wipeT_len, wipe_length, l3, wipe_len w3]
    have J3 : SI K F G4 H4 (wipeT r3 own ++ (.fz l[i]) :: (tm ++ [.ls ac])) (wipe s own ++ some x :: (us ++ [some (.ref Dn)])) := by
      obtain ⟨ff, hr, hf⟩ := J2.own
      obtain ⟨g1, g2, k1, k2, k3, k4, k5⟩ := hr.split lw
      have m : RtL K G4 H4 (.fz l[i] :: (tm ++ [.ls ac])) (some x :: (us ++ [some (.ref Dn)])) g2 := .cons (g := fun _ => False) (.fz q4) k2 (fun b hb => hb.elim) (fun b hb => hb) (fun b hb => hb.elim)
      exact J2.same hf (m.app k1 k5) fun b hb => hb.elim (k3 b) (k4 b)
    refine hg F (fun j => if own.contains j then none else (wipe s own)[j]?) G4 H4 _ _ (.fz l[i]) x _ _ r4 (fun j hj => by rw [if_pos hj]) J3 lw (fun j v hv => ?_) e4 _ fun s5 G5 H5 x5 I5 l5 m5 p5 => ?_
    · dsimp only at hv
      split at hv
      · cases hv
      · exact hv
    have w5 : wipe s5 own = wipe s own := by
      rw [← wipe_idem (s := s)]
      refine wipe_same m5 fun j cj => ?_
      by_cases hj : j < (wipe s own).length
      · rw [List.getElem?_eq_getElem hj]
        exact p5 j _ (by dsimp only; rw [if_neg (by simpa using cj), List.getElem?_eq_getElem hj])
      · rw [List.getElem?_eq_none (by omega), List.getElem?_eq_none (by omega)]
    refine ⟨w5, ?_⟩
    have xx := (x3.trans x4).trans x5
    refine hb F G5 H5 r4 s5 _ _ k r5 I5 l5 e6 _ fun G6 H6 x6 I6 l6 => ?_
    cases k with
    | false => exact ⟨G6, r5, ac, s5, xx.trans x6, I6, l6, w5, e7⟩
    | true =>
      obtain ⟨⟨l7, r7⟩, e8, e9⟩ := Option.bind_eq_some_iff.mp (show (f1 r5).bind _ = _ from e7)
      obtain ⟨⟨ac8, r8⟩, e10, e11⟩ := Option.bind_eq_some_iff.mp e9
      rw [if_pos rfl]
      refine hi1 F G6 H6 r5 s5 _ _ l7 r7 I6 l6 e8 _ fun J1 G7 H7 x7 I7 l7' hJ1 => ?_
      refine comp_core hJ1 hg1 hb1 he e10 I7 (Ex.refl G7) rfl l7' fun G' H' σ' xg I9 l9 w9 => ?_
      refine ⟨G', r8, ac8, σ', ((xx.trans x6).trans x7).trans xg, I9, l9, ?_, e11⟩
      rw [← w5]
      exact wipe_same (wipe_len w9) fun j cj => of_wipe w9 fun z => cj (hv j z)
  · have ei : i = l.length := by omega
    subst ei
    rw [List.drop_length] at e3
    cases e3
    refine Or.inl ⟨(hJ F G3 H3 _ _ x3 I3 l.length).2 (Nat.le_refl _), ?_⟩
    obtain ⟨J3, m3⟩ := comp_end I1 l1 x3 I3 l3 w3
    exact q _ G3 H3 (x1.trans x3) J3 m3 trivial
end
end Q

set_option Elab.async false
set_option linter.all false
set_option maxRecDepth 100000
set_option maxHeartbeats 2000000
namespace Q
open PySem PySem.Spec PyProof.Rows L2
section
variable {K : PySem.W.Frag}
/-! ### isinstance -/
inductive Cl where
  | int | bool | str | tuple | list
def Cl.nm : Cl → String
  | .int => "int"
  | .bool => "bool"
  | .str => "str"
  | .tuple => "tuple"
  | .list => "list"
def D.ty : D → Option String
  | .non => some "NoneType"
  | .bl _ => some "bool"
  | .int _ => some "int"
  | .str _ => some "str"
  | .tup _ => some "tuple"
  | .lst _ => some "list"
  | .scr _ => some "list"
  | .dk _ _ => some "dict"
  | _ => none
def D.isi : D → Cl → Option Bool
  | .non, _ => some false
  | .bl _, .int => some true
  | .bl _, .bool => some true
  | .bl _, _ => some false
  | .int _, .int => some true
  | .int _, _ => some false
  | .str _, .str => some true
  | .str _, _ => some false
  | .tup _, .tuple => some true
  | .tup _, _ => some false
  | .lst _, .list => some true
  | .lst _, _ => some false
  | .scr _, .list => some true
  | .scr _, _ => some false
  | .dk _ _, _ => some false
  | _, _ => none
theorem ty_rp {H : Hp} {d : D} {v : V} {t : String} (h : Rp K H d v) (e : d.ty = some t) : TyX K H v (.type t) := by
  cases h with
  | non => cases e; exact .base .non
  | bl b => cases e; exact .base (.bl b)
  | int i => cases e; exact .base (.int i)
  | str x => cases e; exact .base (.str x)
  | lst a b => cases e; exact .base (.lst a)
  | tup a b =>
    cases e
    rcases a with (a | ⟨o, a⟩) | ⟨o, its, n, a, c, _⟩
    · exact .base (.tup a)
    · exact .fTuple a
    · exact .kTuple a c
  | scr a =>
    cases e
    rcases a with (a | ⟨o, a⟩) | ⟨o, its, n, a, c, _⟩
    · exact .base (.lst a)
    · exact .base (.frz a)
    · exact .kList a c
  | dk a _ _ =>
    cases e
    rcases a with a | ⟨o, a⟩
    · exact .base (.dK a)
    · exact .fDict a
  | dt _ _ _ => cases e
  | exc _ => cases e
  | fnc _ => cases e
theorem isi_kit {d : D} {c : Cl} {b : Bool} (e : d.isi c = some b) : ∃ t, d.ty = some t ∧ kitB t c.nm = some b := by
  cases d <;> cases c <;> first
    | (cases e; exact ⟨_, rfl, by decide +kernel⟩)
    | (cases e)
def dIsi (c : Cl) (f : FD) : ED := fun r => (f r).bind fun p => (p.1.isi c).bind fun b => some (.sh (.bl b), p.2)
theorem de_isi {c : Cl} {te : TE} {f : FD} (h : DF K te f) : DE K (tCB (rIsi K) (tCons te (tCons (tC (.ty c.nm)) tNil))) (dIsi c f) := fun F G H r s tm us w r' I hl e Q q => by
  obtain ⟨⟨d, r1⟩, e1, e⟩ := Option.bind_eq_some_iff.mp e
  obtain ⟨b, e2, e⟩ := Option.bind_eq_some_iff.mp e
  cases e
  refine h F G H r s tm us d _ I hl e1 _ fun v G1 H1 x1 I1 l1 hd => ?_
  obtain ⟨t, z1, z2⟩ := isi_kit e2
  exact ⟨v, .ty c.nm, .type t, .type c.nm, b, rfl, .ty _, ty_rp (Rp.sub I1.pl I1.gh _ _ hd) z1, kit_ty z2, q _ G1 H1 x1 (by simpa only [W.tm, W.vl, List.append_nil] using I1) l1 (.bl b)⟩
/-- isinstance(e, c), e an error that was kept -/
def rIsX (K : PySem.W.Frag) : List V → Hp → VK → Prop := fun xs H Q => ∃ (a c : Addr) (cc : V) (cv : Value) (b : Bool), xs = [.ref a, cc] ∧ Rd H a (EO c a) ∧ ClsV cc cv ∧ ExcC K c ∧ PySem.W.kitOne K (.ref c) cv = some b ∧ Q (.bl b) H
theorem call_isX {X : Cx} : CallR X (.builtin "isinstance") (rIsX X.K) := by
  intro pins s σ H xs us Q I rel told
  obtain ⟨a, c, cc, cv, b, rfl, rd, cl, C, kit, q⟩ := told
  match us, rel with
  | [u1, u2], .cons rx (.cons rt .nil) =>
    cases rx
    have e2 := cl.eq rt
    subst e2
    have ob : ∃ (oe : Obj) (vs : Array Value), s.heap.get? a = some oe ∧ Zc (.ref c) none oe ∧ oe.data = .fields vs := by
      rcases rd with z | ⟨o, z⟩
      · exact (I.hok a _ z).1
      · exact (I.hok a _ z).2.1
    obtain ⟨⟨c0, d0, dat, sl⟩, vs, hget, ⟨z1, z2⟩, z3⟩ := ob
    dsimp only at z1 z2 z3
    subst z1 z2 z3
    have inst : PySem.W.InstAt s.heap a ⟨.ref c, none, .fields vs, sl⟩ c none := ⟨hget, rfl, rfl, trivial⟩
    exact PySem.W.kia_one (PySem.W.handS_kitx_exc C.hg C.hk C.hs C.hd C.ha C.hn C.ht C.hm) I.kIn inst kit (fun z => nomatch z) fun tk => ⟨.bl b, H, I.kept (t' := tk) fun _ _ z => z, rfl, q⟩
open Classical in
noncomputable def dIsX (K : PySem.W.Frag) (cv : Value) (f : FD) : ED := fun r => (f r).bind fun p => match p.1 with
  | .exc c => if ExcC K c then (PySem.W.kitOne K (.ref c) cv).bind fun b => some (.sh (.bl b), p.2) else none
  | _ => none
theorem de_isX {cc : V} {cv : Value} {te : TE} {f : FD} (hc : ClsV cc cv) (h : DF K te f) : DE K (tCB (rIsX K) (tCons te (tCons (tC cc) tNil))) (dIsX K cv f) := fun F G H r s tm us w r' I hl e Q q => by
  obtain ⟨⟨d, r1⟩, e1, e⟩ := Option.bind_eq_some_iff.mp e
  dsimp only at e
  split at e
  · split at e
    · rename_i c hx
      obtain ⟨b, e2, e⟩ := Option.bind_eq_some_iff.mp e
      cases e
      refine h F G H r s tm us _ _ I hl e1 _ fun v G1 H1 x1 I1 l1 hd => ?_
      cases hd with | exc rd => exact ⟨_, c, cc, cv, b, rfl, sub_rd trivial I1.gh rd, hc, hx, e2, q _ G1 H1 x1 (by simpa only [W.tm, W.vl, List.append_nil] using I1) l1 (.bl b)⟩
    · cases e
  · cases e
/-! ### repr -/
def rRep (K : PySem.W.Frag) : List V → Hp → VK → Prop := fun xs H Q => ∃ v x, xs = [v] ∧ Dp K H v x ∧ x.showable = true ∧ x.depth ≤ 100 ∧ x.shown.length ≤ sizeLine ∧ Q (.str x.shown) H
theorem noDict {h : Heap} : ∀ {v : V} {x : PyData}, True → True := fun _ => trivial
mutual
theorem dp_nodict {H : Hp} : ∀ (v : V) (x : PyData), Dp K H v x → x.hasDict = false
  | _, _, .non => by unfold PyData.hasDict; rfl
  | _, _, .bl b => by unfold PyData.hasDict; rfl
  | _, _, .int i => by unfold PyData.hasDict; rfl
  | _, _, .str z => by unfold PyData.hasDict; rfl
  | _, _, .lst h q => by unfold PyData.hasDict; exact dpL_nodict _ _ q
  | _, _, .tup h q => by unfold PyData.hasDict; exact dpL_nodict _ _ q
theorem dpL_nodict {H : Hp} : ∀ (v : List V) (x : List PyData), DpAll K H v x → PyData.hasDictAll x = false
  | _, _, .nil => by unfold PyData.hasDictAll; rfl
  | _, _, .cons h q => by unfold PyData.hasDictAll; rw [dp_nodict _ _ h, dpL_nodict _ _ q]; rfl
end
theorem call_rep {X : Cx} (gu : X.A.guards = some []) {k : Nat} (hr : Room k X.A) : CallR X (.builtin "repr") (rRep X.K) := by
  intro pins s σ H xs us Q I rel told
  obtain ⟨v, x, rfl, dp, sh, dep, len, q⟩ := told
  have un := hr.un
  match us, rel with
  | [u], .cons rx .nil =>
    have leaf : ∀ tk, EP X pins σ Q (.str x.shown tk) { s with toks := s.toks + 1 } := fun tk => ⟨.str x.shown, H, I.tok _, ⟨_, rfl⟩, q⟩
    have nd := dp_nodict _ _ dp
    obtain ⟨as, rd⟩ := Dp.reads I x v u dp rx
    cases dp with
    | non =>
      cases rx
      simp only [PyData.shown] at leaf
      exact call_repr_gives (typeIs_none s) F.slot_NoneType_repr F.entry_NoneType_repr (F.args_NoneType_repr_1 _) gives_none_repr (leaf _) (hx := by decide)
    | bl b =>
      cases rx
      simp only [PyData.shown] at leaf
      exact call_repr_gives (PySem.typeIs_bool s b) F.slot_bool_repr F.entry_bool_repr (F.args_bool_repr_1 _) (gives_bool_repr b) (leaf _) (hx := by cases b <;> decide)
    | int i =>
      obtain ⟨t, rfl⟩ := rx
      simp only [PyData.shown] at leaf
      simp only [PyData.showable, decide_eq_true_eq] at sh
      exact call_repr_gives (typeIs_int s i t) F.slot_int_repr F.entry_int_repr (F.args_int_repr_1 _) (gives_int_repr i t sh) (leaf _) (hx := int_text_fits sh)
    | str z =>
      obtain ⟨t, rfl⟩ := rx
      simp only [PyData.shown] at leaf len
      exact call_repr_gives (typeIs_str s z t) F.slot_str_repr F.entry_str_repr (F.args_str_repr_1 _) (gives_str_repr z t) (leaf _) (hx := len)
    | lst a b =>
      cases rx
      exact repr_of_reads' rd sh (fun z => by rw [nd] at z; cases z) gu (by omega) (fun _ _ z => z) (fun h' t tk kp => ⟨.str _, H, I.kept (t' := tk) kp, ⟨_, rfl⟩, q⟩) len
    | tup a b =>
      cases rx
      exact repr_of_reads' rd sh (fun z => by rw [nd] at z; cases z) gu (by omega) (fun _ _ z => z) (fun h' t tk kp => ⟨.str _, H, I.kept (t' := tk) kp, ⟨_, rfl⟩, q⟩) len
def gRep : List D → Option Rs
  | [a] => a.py.bind fun x => if x.showable = true ∧ x.depth ≤ 100 ∧ x.shown.length ≤ 1000000 then some (.val (.str x.shown)) else none
  | _ => none
theorem dc_rep : DC K (rRep K) gRep := fun G H xs vs z sb pl q e Q k => by
  unfold gRep at e
  split at e
  · obtain ⟨x, e1, e⟩ := Option.bind_eq_some_iff.mp e
    split at e
    · rename_i c
      cases e
      cases q with | cons p q => cases q; exact ⟨_, x, rfl, py_dp _ _ x (Rp.sub pl sb _ _ p) e1, c.1, c.2.1, big c.2.2, k _ (.str _)⟩
    · cases e
  · cases e
end
/-! ### try: .. except x as n: m = n -/
section
variable {X : Cx} {pins : List (Addr × Obj)} {σ : L2.St} {H : Hp} {s : Shared}
theorem Inv.track {a C : Addr} {oe : Obj} {vs : Array Value} (I : Inv X ((a, oe) :: pins) σ H s) (hz : Zc (.ref C) none oe) (hd : oe.data = .fields vs) (hx : X.ex = []) (h0 : X.s_0.heap.get? a = none) (hp : ∀ p ∈ X.pn ++ pins, p.1 ≠ a) : Inv X pins σ (upd H a (EO C a)) s := by
  obtain ⟨hg, hn, nl, nf, nc⟩ := I.pin (a, oe) (List.mem_append.mpr (Or.inr List.mem_cons_self))
  have was : ∀ b o, H b = some o → upd H a (EO C a) b = some o := fun b o e => by rw [upd_ne (ne_of_none e hn)]; exact e
  refine ⟨I.ok, I.os, I.bare, ⟨I.base.keep, I.base.slot, fun b o e1 e2 e3 => ?_, I.base.there, fun b xs e => was _ _ (I.base.tups b xs e), fun b o u e => was _ _ (I.base.frzs b o u e), fun b ps e => ?_⟩, I.loc, I.cell, ?_, fun x c e => ?_, fun p hpm => ?_, ?_, I.len⟩
  · rw [upd_ne fun z => by subst z; rw [h0] at e1; cases e1]
    exact I.base.free b o e1 e2 e3
  · obtain ⟨more, z⟩ := I.base.tbls b ps e
    exact ⟨more, was _ _ z⟩
  · rw [upd_ne fun z => nl z.symm]
    exact I.free
  · rw [upd_ne fun z => ?_]
    · exact I.freeC x c e
    · subst z
      obtain ⟨v, oc, z1, z3⟩ := I.cell x c e
      rw [show s.heap.get? c = some oe from hg] at z1
      cases z1
      exact nc v z3
  · obtain ⟨z1, z2, z3⟩ := I.pin p (by
      rcases List.mem_append.mp hpm with z | z
      · exact List.mem_append.mpr (Or.inl z)
      · exact List.mem_append.mpr (Or.inr (List.mem_cons_of_mem _ z)))
    exact ⟨z1, by rw [upd_ne (hp p hpm)]; exact z2, z3⟩
  · exact I.hok.laidN (fun _ _ z => z) hn ⟨⟨oe, vs, hg, hz, hd⟩, ⟨oe, hg⟩, fun h1 h2 ⟨o, w, k1, k2, k3⟩ k => ⟨o, w, k o k1, k2, k3⟩⟩
end
/-- what 'except x as n: m = n' wishes of an error of the body that x takes -/
def wKeep (K : PySem.W.Frag) (c : Value) (i : Nat) (tsu : TS) (D : Ends) : WX := fun cls d σ H => PySem.W.exmOne K cls c = some true ∧ d = none ∧ ∃ C : Addr, cls = .ref C ∧ ∀ a, H a = none → tsu { nx := fun σ' H' => H' a = none ∧ D.nx (σ'.set i none) (upd H' a (EO C a)), rt := fun _ _ => False } (σ.set i (some (.ref a))) H
def tTry (tb : WX → TS) (K : PySem.W.Frag) (c : Value) (i : Nat) (tsu : TS) : TS := fun D σ H => tb (wKeep K c i tsu D) D σ H
section
variable {X : Cx} {x n : Str} {c : Value} {i : Nat} {body suite : List Stmt} {b₀ : Stmt} {np pos pos' : Pos} {tb : WX → TS} {tsu : TS}
theorem ps_keep (hs : X.stack = X.env :: X.outer) (hf : X.env.frame = some X.env.locals) (hex : X.ex = []) (hN : X.N.Nodup) (hi : X.N[i]? = some n) (hln : X.env.kindOf n = some .local) (hc : Names X x c)
    (hb : ∀ (U : WX) (pn : List (Addr × Obj)) (xe : Value → Shared → Prop), Takes (X.tr pn xe) U → PassesOwn (model X.prog X.w) X.A X.env xe → PSs (X.tr pn xe) body (tb U))
    (hsu : ∀ (a : Addr) (oe : Obj) (cls : Value) (d : Option Addr) (pn : List (Addr × Obj)), Zc cls d oe → (∃ vs, oe.data = .fields vs) → PSs (X.suite a ((a, oe) :: pn)) (b₀ :: suite) tsu) :
    PS X (.Try body [.ExceptHandler (some (.Name x np)) (some n) (b₀ :: suite) pos'] [] [] pos) (tTry tb X.K c i tsu) := by
  refine ⟨fun pins s σ H D I told => wpAny_Try_except ?_⟩
  have ok := I.ok
  have frames : X.A.frames = some (X.env :: X.outer) := by rw [ok.frames, hs]
  refine wpAny_mono ((hb (wKeep X.K c i tsu D) (X.pn ++ pins) _ ?caught PassesOwn.looking).run [] s σ H D (I.toTry _) told) (fun f s1 hsp => ?through) (fun e s1 he => he)
  case through =>
    cases f with
    | next => obtain ⟨σ', H', J, z⟩ := hsp; exact wpAny_execs_nil ⟨σ', H', J.ofTry ok, z⟩
    | brk => obtain ⟨σ', H', J, z⟩ := hsp; exact ⟨σ', H', J.ofTry ok, z⟩
    | cont => obtain ⟨σ', H', J, z⟩ := hsp; exact ⟨σ', H', J.ofTry ok, z⟩
    | ret u => obtain ⟨v, σ', H', J, rv, z⟩ := hsp; exact ⟨v, σ', H', J.ofTry ok, rv, z⟩
  case caught =>
    intro u s' air
    obtain ⟨a, B, sI, pins', σ', H', cls, d, rfl, J', nb, up, sky, na, os, ag, hit, rfl, C, rfl, wish⟩ := air
    have J : Inv X pins σ' H' sI := J'.ofTry ok
    have gone : B.get? a = none := by
      rcases sky with ⟨_, z, _⟩ | z | z
      · exact z
      · exact z.2.1
      · exact z.2.1
    rw [hs] at sky
    show wpAny (model X.prog X.w) X.A (noteFrame (.ref a) X.env) _ _ _
    refine Sky.land Zc.steady frames hf sky fun h3 fl3 up3 => ?_
    obtain ⟨oe3, vs3, at3, z3, d3⟩ := fl3.there
    have J3 : Inv X pins σ' H' { s' with heap := h3 } := J.landed nb fl3.1 (up.trans up3) os ag
    have noFrame : a ∉ frs (X.env :: X.outer) := fun hm => by
      obtain ⟨_, o1, g1, nofl⟩ := fl3.2.2.1.mem hm
      rw [at3] at g1
      cases g1
      exact nofl _ d3
    have nL : a ≠ X.env.locals := fun z => noFrame (List.mem_filterMap.mpr ⟨X.env, List.mem_cons_self, by rw [hf, z]⟩)
    have nF : a ∉ X.fs := fun hm => noFrame (by
      obtain ⟨e, he, z⟩ := List.mem_filterMap.mp hm
      exact List.mem_filterMap.mpr ⟨e, List.mem_cons_of_mem _ he, z⟩)
    have newI : sI.heap.get? a = none := by
      cases z : sI.heap.get? a with
      | none => rfl
      | some o =>
        have := nb a o z (by rw [hs]; exact noFrame)
        rw [gone] at this
        cases this
    have new0 : X.s_0.heap.get? a = none := by
      cases z : X.s_0.heap.get? a with
      | none => rfl
      | some o =>
        obtain ⟨o', w⟩ := J.base.there a o z (by rw [hex]; simp)
        rw [newI] at w
        cases w
    have apart : ∀ p ∈ X.pn ++ pins, p.1 ≠ a := fun p hp z => by
      have := (J.pin p hp).1
      rw [z, newI] at this
      cases this
    have S3 := J3.suite at3 d3 na nL nF
    refine wpAny_handleBy_cons (codeAny_handlers_test ?_) (by intro z; cases z)
    have ty : PySem.W.Looks (model X.prog X.w) h3 (typeOf (.ref a)) (.ref C) := fun A Q E s k q => wpAny_typeOf_ref (k _ _ at3) (by rw [z3.1]; exact q)
    have takes := PySem.W.exm_one (M := model X.prog X.w) J3.kIn ty hit
    have name : ∀ {Q : Value → Shared → Prop} {E : Value → Shared → Prop}, Q c { s' with heap := h3 } → wpAny (model X.prog X.w) (X.A.mark (some (.ref a))) (eval (.Name x np) X.env) Q E { s' with heap := h3 } := fun {Q E} q => by
      obtain ⟨gl, db, m | ⟨m, bl, nn⟩⟩ := hc
      · exact ld_glob (X := X.suite a ((a, oe3) :: (X.pn ++ pins))) S3 gl m q db
      · exact ld_blt (X := X.suite a ((a, oe3) :: (X.pn ++ pins))) S3 gl m bl q nn db
    refine name (takes.here (codeAny_handlers_suite_as ?_))
    refine HandSPX.lands_againZ fl3 fun h4 fl4 up4 => ?_
    obtain ⟨oe4, vs4, at4, z4, d4⟩ := fl4.there
    have J4 : Inv X pins σ' H' { s' with heap := h4 } := J.landed nb fl4.1 ((up.trans up3).trans up4) os ag
    refine store_ok (X := X.suite a ((a, oe4) :: (X.pn ++ pins))) (v := .ref a) (J4.suite at4 d4 na nL nF) hN hi (Or.inl hln) rfl (fun s5 S5 => ?_) (Or.inr hln)
    refine wpAny_mono ((hsu a oe4 (.ref C) none (X.pn ++ pins) z4 ⟨_, d4⟩).run [] s5 _ H' _ S5 (wish a na)) (fun f s6 hsp => ?_) (fun _ _ z => z.elim)
    cases f with
    | brk => obtain ⟨_, _, _, z⟩ := hsp; exact z.elim
    | cont => obtain ⟨_, _, _, z⟩ := hsp; exact z.elim
    | ret u => obtain ⟨_, _, _, _, _, z⟩ := hsp; exact z.elim
    | next =>
      obtain ⟨σ6, H6, S6, free6, z6⟩ := hsp
      have p6 := S6.pin (a, oe4) (List.mem_append.mpr (Or.inl List.mem_cons_self))
      have J6 : Inv X pins σ6 H6 s6 := S6.unsuite ok
      have K6 : Inv X ((a, oe4) :: pins) σ6 H6 s6 := J6.pins_of fun p hp => by
        · rcases List.mem_cons.mp hp with w | w
          · subst w; exact ⟨p6.1, p6.2.1, nL, nF, fun v => by rw [d4]; exact fun z => nomatch z⟩
          · exact J6.pin p (List.mem_append.mpr (Or.inr w))
      exact gone_ok K6 hN hi hln fun s7 K7 => ⟨_, _, Q.Inv.track K7 z4 d4 hex new0 apart, z6⟩
end
section
variable {K : PySem.W.Frag}
def dTry (K : PySem.W.Frag) (c : Value) (i j : Nat) (g : SD) : SD := fun r => (g r).bind fun o => match o with
  | .ex cc r1 => if PySem.W.exmOne K (.ref cc) c = some true ∧ i < r1.length ∧ i ≠ j then some (.nx (((r1.set i .un).set j (.fz (.exc cc))).set i .un)) else none
  | o => some o
theorem ds_keep {A : Nat → Bool} {X : WX} {c : Value} {i j : Nat} {tb : WX → TS} {g : SD} (hi : A i = true) (hj : A j = true) (h : ∀ U, DS K A U (tb U) g) : DS K A X (tTry tb K c i (tAsg (tVar i) (gName j))) (dTry K c i j g) := fun F P G H r s o a I p e E q => by
  obtain ⟨o1, e1, e⟩ := Option.bind_eq_some_iff.mp e
  refine h _ F P G H r s o1 a I p e1 E ?_
  cases o1 with
  | nx r1 => cases e; exact q
  | rt w r1 => cases e; exact q
  | bk r1 => cases e; exact q
  | ct r1 => cases e; exact q
  | ex cc r1 =>
    dsimp only at e
    split at e
    · rename_i hc
      cases e
      intro s' G' H' xg I' p'
      refine ⟨hc.1, rfl, cc, rfl, fun b hb => ?_⟩
      have l1 := I'.len
      refine ⟨.ref b, List.getElem?_set_self (by omega), hb, ?_⟩
      have en : Ex G' (upd G' b (EO cc b)) := Ex.new (I'.Gnone hb)
      have I1 := I'.laid hb (o := EO cc b) (fun _ _ z => HO.noConfusion z)
      have I2 : SI K F (upd G' b (EO cc b)) (upd H' b (EO cc b)) (r1 ++ []) (s' ++ []) := by simpa only [List.append_nil] using I1
      have I3 := I2.reset l1 (t := .un) (y := some (.ref b)) .un i
      have I4 := I3.reset (by simp; exact l1) (t := .fz (.exc cc)) (y := some (.ref b)) (.fz (.exc (Or.inl upd_same))) j
      have I5 := I4.reset (by simp; exact l1) (t := .un) (y := none) .un i
      refine q _ _ _ (xg.trans en) (by simpa only [List.append_nil] using I5) ?_
      exact ((p'.set (a i hi)).set (a j hj)).set (a i hi)
    · cases e
end
end Q

set_option Elab.async false
set_option linter.all false
set_option maxRecDepth 100000
set_option maxHeartbeats 2000000
namespace Q
open PySem PySem.Spec PyProof.Rows L2
/-- the caller's heap knows the script alone, if it knows anything -/
def scriptH (K : PySem.W.Frag) (a : Addr) (vs : List Value) (ns : List Int) : Hp := fun b => if b = a ∧ K.lookup a = none then some (.frz { cls := .type "list", data := .seq vs.toArray } (.lst (ns.map V.int))) else none
theorem scriptH_some {K : PySem.W.Frag} {a b : Addr} {vs : List Value} {ns : List Int} {o : HO} (h : scriptH K a vs ns b = some o) : b = a ∧ K.lookup a = none ∧ o = .frz { cls := .type "list", data := .seq vs.toArray } (.lst (ns.map V.int)) := by
  unfold scriptH at h
  split at h
  · rename_i c; cases h; exact ⟨c.1, c.2, rfl⟩
  · cases h
theorem law_g {P : Program} {w : World} {K : PySem.W.Frag} {mg mb : Str → Option Value} {k : Nat} {fa a : Addr} {fd : FuncData} {x : Str} {sp : Sp} {s₁ : Shared} {vs : List Value} {ns : List Int}
    (KX : K.In s₁.heap) (hns : s₁.heap.Ns mainGlobals mg) (hb : s₁.heap.Ns builtinsNs mb) (hbb : ∀ x : Str, x ≠ "__name__" → mb x = bootBuiltins x) (hlim : s₁.heap.NoLimit) (hg : s₁.gens = #[])
    (ha : s₁.heap.get? a = some { cls := .type "list", data := .seq vs.toArray }) (hi : IntsAre vs ns) (hl : ns.length ≤ sizeLine) (hr : Room k callerA)
    (F : ∀ base : Heap, K.In base → base.Ns mainGlobals mg → FnG P w K mg base k fa fd [x] sp) (hbind : ∀ (s : Shared) (u : Value), BindsTo s fd ⟨[u], []⟩ [(x, u)])
    (hsp : ∀ H : Hp, SqL K H a (ns.map V.int) → sp [.ref a] H (fun v _ => v = .bl true) fun _ _ _ => False) :
    codeAny (model P w) callerA (.call (.ref fa) ⟨[.ref a], []⟩) (fun r s' => r = .ok (.ret (.bool true)) ∧ OldK s₁.heap s'.heap ∧ s'.os = s₁.os ∧ AllBare s'.gens) s₁ := by
  have rv := vals_ints hi
  have lenV := hi.length
  generalize hH : scriptH K a vs ns = H
  have known : ∀ {b : Addr} {o : HO}, H b = some o → b = a ∧ K.lookup a = none ∧ o = .frz { cls := .type "list", data := .seq vs.toArray } (.lst (ns.map V.int)) := fun {b o} e => by
    rw [← hH] at e
    exact scriptH_some e
  have ok : HOk P w H s₁.heap := fun b o e => by
    obtain ⟨rfl, _, rfl⟩ := known e
    exact ⟨ha, by rw [List.length_map]; exact hl, vs, _, rv, ha⟩
  have sq : SqL K H a (ns.map V.int) := by
    cases c : K.lookup a with
    | none => exact Or.inl (Or.inr ⟨_, by rw [← hH]; unfold scriptH; rw [if_pos ⟨rfl, c⟩]⟩)
    | some o =>
      have z := KX a o c
      rw [ha] at z
      cases z
      exact Or.inr ⟨_, vs.toArray, _, c, rfl, rfl, rfl, by rw [List.size_toArray, lenV]; exact hl, by simpa using rv⟩
  have free : ∀ {b : Addr} {o : Obj}, K.lookup b = some o → H b = none := fun {b o} e => by
    cases q : H b with
    | none => rfl
    | some u =>
      obtain ⟨rfl, z, _⟩ := known q
      rw [e] at z
      cases z
  have names : ∀ {b : Addr} {m : Str → Option Value}, s₁.heap.Ns b m → (hidT s₁.heap H).Ns b m := fun {b m} ⟨o, es, ep, e, d, z⟩ => ⟨o, es, ep, hidT_get e (by
    cases q : H b with
    | none => rfl
    | some u =>
      obtain ⟨rfl, _, _⟩ := known q
      rw [ha] at e
      cases e
      exact nomatch (show Data.seq vs.toArray _ = Data.dict es ep from d)), d, z⟩
  have kin : K.In (hidT s₁.heap H) := fun b o e => hidT_get (KX b o e) (free e)
  obtain ⟨mc, n1, n2⟩ := hlim
  have e0 : Env0 P w K mg (hidT s₁.heap H) callerA [] s₁ H :=
    { frames := rfl, mod := ⟨kin, names hns, ⟨mb, names hb, hbb⟩, ⟨mc, names n1, n2⟩⟩, bs := fun b o e => of_hidT e, bsz := Nat.le_of_eq (hidT_size _ _), funs := trivial, frf := fun b z => absurd (show b ∈ ([] : List Addr) from z) (by simp), hok := ok, bare := .of_eq hg }
  refine codeAny_mono ((F _ kin (names hns)).run callerA [] s₁ H ⟨[.ref a], []⟩ [.ref a] [.ref a] _ _ hr rfl e0 (hbind s₁ (.ref a)) (.cons rfl .nil) (hsp H sq)) fun r s' told => ?_
  match r, told with
  | .error e, told =>
    obtain ⟨_, _, _, _, _, _, _, _, _, _, _, _, z⟩ := told
    exact z.elim
  | .ok (.ret u), ⟨v, H', os, bare, un, ok', rel, z⟩ =>
    have z' : v = .bl true := z
    subst z'
    obtain rfl : u = Value.bool true := rel
    refine ⟨rfl, OldK.of_keep fun b o e => ?_, os, bare⟩
    cases q : H b with
    | none => exact un.keep b o e q (fun z => absurd (show b ∈ ([] : List Addr) from z) (by simp)) (by simp)
    | some u =>
      obtain ⟨rfl, _, rfl⟩ := known q
      obtain ⟨e1, _⟩ := ok b _ q
      obtain ⟨e2, _⟩ := ok' b _ (un.frzs b _ _ q)
      rw [e] at e1
      cases e1
      exact e2
theorem walk_g {l : PySem.W.OpenLaw} {n k : Nat} {q : Program} {loose : List Str} {XP : (Str → Option Value) → Heap → Prop} {YP : World → Heap → Prop} {d : DefRec} {K : Params → PySem.W.Frag} {x : Str}
    (hn : l.most = some n) (hn2 : n ≤ sizeLine) (hdf : d.params.defaults = []) (hr : Room k callerA) (hY : ∀ (w : World) (h : Heap), YP w h → (K w.params).In h)
    (F : ∀ (w : World) (mg : Str → Option Value) (fa : Addr) (h : Heap), (K w.params).In h → h.Ns mainGlobals mg → mg d.name = some (.ref fa) →
      ∃ fd : FuncData, (∀ (s : Shared) (u : Value), BindsTo s fd ⟨[u], []⟩ [(x, u)]) ∧ ∃ sp : Sp, (∀ base : Heap, (K w.params).In base → base.Ns mainGlobals mg → FnG l.prog w (K w.params) mg base k fa fd [x] sp) ∧
        ∀ (H : Hp) (a : Addr) (ns : List Int), ns.length ≤ n → SqL (K w.params) H a (ns.map V.int) → sp [.ref a] H (fun v _ => v = .bl true) fun _ _ _ => False) :
    PySem.W.WalkO q loose XP YP l.row.toRowW d [] (fun f vs => PySem.call f vs) := by
  refine Att.attach_call hn hdf fun w s₀ s₁ mg mb fa o pm cd doc a vs ns G Y ho hd hcd hmg hobj hints hlen hg => ?_
  obtain ⟨fd, bind, sp, prom, met⟩ := F w mg fa _ (hY w _ Y) G.T.g hmg
  exact law_g (hY w _ Y) G.T.g G.T.b G.T.builtins G.T.nolimit hg hobj hints (Nat.le_trans hlen hn2) hr prom bind fun H hS => met H a ns hlen hS
/-- the law's worth is True at the script: that is its promise -/
theorem law_sp {K : PySem.W.Frag} {fn : FnT} {H : Hp} {a : Addr} {ns : List Int} {ps' : List T} (hS : SqL K H a (ns.map V.int)) (e : fn [.fz (.scr ns)] = some (.ret (.fz (.bl true)), ps')) (hl : ps'.length = 1) : spD K 1 fn [.ref a] H (fun v _ => v = .bl true) fun _ _ _ => False := by
  refine ⟨rfl, H, fun _ => False, [.fz (.scr ns)], _, ps', e, ⟨.cons (g := fun _ => False) (h := fun _ => False) (.fz (.scr hS)) .nil (fun b hb => hb) (fun b hb => hb) (fun b hb => hb.elim), fun b hb => hb.elim, fun _ _ z => Or.inl z, trivial⟩, fun v G' H' En => ?_⟩
  obtain ⟨f', rt, _⟩ := En.rt
  obtain ⟨_, _, _, k2, _⟩ := rt.split (by simpa using hl)
  cases k2 with | cons a1 _ _ _ _ => cases a1 with | fz q => cases q; rfl
/-! ### a def by its name -/
structure FnE (P : Program) (w : World) (K : PySem.W.Frag) (mg : Str → Option Value) (base : Heap) (k : Nat) (x : Str) (ps : List Str) (fn : FnT) : Prop where
  ex : ∃ f fd, FnG P w K mg base k f fd ps (spD K ps.length fn) ∧ mg x = some (.ref f) ∧ PySem.W.keepIn K (.ref f) = true ∧ Binds K fd ps []
  len : ∀ qs z, fn qs = some z → qs.length = ps.length
section
variable {X : Cx} {k : Nat} {x : Str} {ps : List Str} {fn : FnT} {E : L2.St → XK} {p pos : Pos} {e : Expr} {es : List Expr} {t : TA}
theorem pe_fnE (Ef : FnE X.prog X.w X.K X.mg X.base k x ps fn) (hr : Room k X.A) (gu : X.A.guards = some []) (hg : Gl X x) (hx : ∀ σ, PassesAt (L2.CX X.prog X.w) X σ (E σ))
    (ha : PA X (e :: es) t) (hdb : (x == ("__debug__" : Str)) = false := by decide) (he : starEach (e :: es) X.env = (false, eval e X.env) :: starEach es X.env := by rfl) (hpl : (backTo pos (starEach es X.env)).any (·.1) = false := by rfl) :
    PE X (.Call (.Name x p) (e :: es) [] pos) (tCallS (spD X.K ps.length fn) E t) := by
  obtain ⟨f, fd, G, hm, hk, hb⟩ := Ef.ex
  exact pe_fn G hr gu hg hm hk hb hx ha hdb he hpl
end
theorem kit_ref {K : PySem.W.Frag} {c d : Addr} {b : Bool} (h1 : PySem.W.hasDictIn K d = true) (h2 : PySem.W.typeIn K (.ref d) = some (.type "type")) (h3 : PySem.W.subIn K (.ref c) (.ref d) = some b) (h4 : c = d → b = true) : PySem.W.kitOne K (.ref c) (.ref d) = some b := by
  unfold PySem.W.kitOne
  split
  · rename_i z
    rw [h4 (Value.ref.inj (beq_iff_eq.mp z))]
  · obtain ⟨cd, hc, _⟩ := PySem.W.any_some h1
    unfold PySem.W.kitCls
    dsimp only
    rw [if_pos (by rw [hc, h2]; rfl)]
    exact h3
theorem kit_typ {K : PySem.W.Frag} {c : Addr} {n : String} {b : Bool} (h : PySem.W.kitMeta n = true) (h3 : PySem.W.subIn K (.ref c) (.type n) = some b) : PySem.W.kitOne K (.ref c) (.type n) = some b := by
  unfold PySem.W.kitOne
  rw [if_neg (by intro z; cases beq_iff_eq.mp z)]
  unfold PySem.W.kitCls
  dsimp only
  rw [if_pos h]
  exact h3
theorem dt_test {K : PySem.W.Frag} {te : TE} {f : FD} (h : DF K te f) : DT K (tTest te) (dBl f) := fun F G H r s tm us b r' I hl e Q q => dt_bl h F G H r s tm us b r' I hl e Q q
end Q

set_option Elab.async false
set_option linter.all false
set_option maxRecDepth 100000
set_option maxHeartbeats 2000000
namespace Q
open PySem PySem.Spec PyProof.Rows L2
/-! ### reckoning with what a def is worth -/
theorem seq_nx {g h : SD} {r r1 : Env} (e : g r = some (.nx r1)) : dSeq g h r = h r1 := by unfold dSeq; rw [e]; rfl
theorem seq_rt {g h : SD} {r r1 : Env} {w : W} (e : g r = some (.rt w r1)) : dSeq g h r = some (.rt w r1) := by unfold dSeq; rw [e]; rfl
theorem seq_ex {g h : SD} {r r1 : Env} {c : Addr} (e : g r = some (.ex c r1)) : dSeq g h r = some (.ex c r1) := by unfold dSeq; rw [e]; rfl
theorem fn_rt {n N : Nat} {fx : List Bool} {b : SD} {ps : List T} {d : D} {r : Env} (hl : ps.length = n) (e : b (ps ++ List.replicate (N - n) .un) = some (.rt (.sh d) r)) (h : n ≤ r.length) : fnD n N fx b ps = some (.ret (.fz d), outP fx ps r) := by
  unfold fnD
  rw [if_pos hl, e]
  simp [retW, h]
theorem fn_nw {n N : Nat} {fx : List Bool} {b : SD} {ps : List T} {t : T} {r : Env} (hl : ps.length = n) (e : b (ps ++ List.replicate (N - n) .un) = some (.rt (.nw t) r)) (h : n ≤ r.length) : fnD n N fx b ps = some (.ret t, outP fx ps r) := by
  unfold fnD
  rw [if_pos hl, e]
  simp [retW, h]
theorem fn_nx {n N : Nat} {fx : List Bool} {b : SD} {ps : List T} {r : Env} (hl : ps.length = n) (e : b (ps ++ List.replicate (N - n) .un) = some (.nx r)) (h : n ≤ r.length) : fnD n N fx b ps = some (.ret (.fz .non), outP fx ps r) := by
  unfold fnD
  rw [if_pos hl, e]
  simp [h]
theorem fn_ex {n N : Nat} {fx : List Bool} {b : SD} {ps : List T} {c : Addr} {r : Env} (hl : ps.length = n) (e : b (ps ++ List.replicate (N - n) .un) = some (.ex c r)) (h : n ≤ r.length) : fnD n N fx b ps = some (.exc c, outP fx ps r) := by
  unfold fnD
  rw [if_pos hl, e]
  simp [h]
/-- a comprehension that tells a thing of each item -/
theorem comp_map {h : GD} {e : MD} {own : List Nat} {P : Env → Prop} {g : D → T} : ∀ (l : List D) (r : Env) (acc : List T), (∀ d ∈ l, ∀ r, P r → ∃ r1 r2, h (wipeT r own) (.fz d) = some r1 ∧ e r1 = some (g d, r2) ∧ P r2) → P r → acc.length + l.length ≤ 1000000 →
    ∃ r', compD h dYes e own l r acc = some (acc ++ l.map g, r') ∧ P r'
  | [], r, acc, _, p, _ => ⟨r, by simp [compD], p⟩
  | d :: l, r, acc, hs, p, hb => by
    obtain ⟨r1, r2, e1, e2, p2⟩ := hs d List.mem_cons_self r p
    obtain ⟨r', e3, p3⟩ := comp_map l r2 (acc ++ [g d]) (fun d' hd => hs d' (List.mem_cons_of_mem _ hd)) p2 (by simp at hb ⊢; omega)
    refine ⟨r', ?_, p3⟩
    have hc : acc.length < 1000000 := by simp at hb; omega
    simp only [compD, e1, e2, dYes, Option.bind_some, if_true, if_pos hc]
    rw [e3]
    simp
/-- two clauses, likewise -/
theorem comp2_map {h h1 : GD} {e : MD} {f1 : ID} {own own1 : List Nat} {P : Env → Prop} {g : D → List T} : ∀ (l : List D) (r : Env) (acc : List T), (∀ d ∈ l, ∀ r acc, P r → acc.length + (g d).length ≤ 1000000 → ∃ r1 l1 r2 r3, h (wipeT r own) (.fz d) = some r1 ∧ f1 r1 = some (l1, r2) ∧ compD h1 dYes e own1 l1 r2 acc = some (acc ++ g d, r3) ∧ P r3) → P r → acc.length + (l.flatMap g).length ≤ 1000000 →
    ∃ r', comp2D h dYes f1 h1 dYes e own own1 l r acc = some (acc ++ l.flatMap g, r') ∧ P r'
  | [], r, acc, _, p, _ => ⟨r, by simp [comp2D], p⟩
  | d :: l, r, acc, hs, p, hb => by
    rw [List.flatMap_cons, List.length_append] at hb
    obtain ⟨r1, l1, r2, r3, e1, e2, e3, p3⟩ := hs d List.mem_cons_self r acc p (by omega)
    obtain ⟨r', e4, p4⟩ := comp2_map l r3 (acc ++ g d) (fun d' hd => hs d' (List.mem_cons_of_mem _ hd)) p3 (by rw [List.length_append]; omega)
    refine ⟨r', ?_, p4⟩
    simp only [comp2D, e1, e2, e3, dYes, Option.bind_some, if_true]
    rw [e4]
    simp
theorem dataL_fz : ∀ l : List D, dataL (l.map .fz) = some l
  | [] => rfl
  | d :: l => by simp [dataL, T.data, dataL_fz l]
/-- a loop that goes on -/
theorem loop_fold {h : GD} {body : SD} {α : Type} (st : α → Env → Prop) (f : α → D → α) (a0 : α) (l : List D) (hs : ∀ pre d post, l = pre ++ d :: post → ∀ r, st (pre.foldl f a0) r → ∃ r1 r2, h r (.fz d) = some r1 ∧ body r1 = some (.nx r2) ∧ st (f (pre.foldl f a0) d) r2) :
    ∀ (post pre : List D) (r : Env), l = pre ++ post → st (pre.foldl f a0) r → ∃ r', loopD h body post r = some (.nx r') ∧ st (l.foldl f a0) r'
  | [], pre, r, e, p => ⟨r, rfl, by rw [e, List.append_nil]; exact p⟩
  | d :: post, pre, r, e, p => by
    obtain ⟨r1, r2, e1, e2, p2⟩ := hs pre d post e r p
    obtain ⟨r', e3, p3⟩ := loop_fold st f a0 l hs post (pre ++ [d]) r2 (by rw [e]; simp) (by rw [List.foldl_append]; exact p2)
    refine ⟨r', ?_, p3⟩
    simp only [loopD, e1, e2, Option.bind_some]
    exact e3
theorem loop_all {h : GD} {body : SD} {α : Type} {st : α → Env → Prop} {f : α → D → α} {a0 : α} {l : List D} {r : Env} (hs : ∀ pre d post, l = pre ++ d :: post → ∀ r, st (pre.foldl f a0) r → ∃ r1 r2, h r (.fz d) = some r1 ∧ body r1 = some (.nx r2) ∧ st (f (pre.foldl f a0) d) r2) (p : st a0 r) :
    ∃ r', loopD h body l r = some (.nx r') ∧ st (l.foldl f a0) r' := loop_fold st f a0 l hs l [] r rfl p
theorem for_nx {f : ID} {h : GD} {body : SD} {r r1 : Env} {l : List D} {o : O} (e : f r = some (l, r1)) (e2 : loopD h body l r1 = some o) : dFor f h body r = some o := by unfold dFor; rw [e]; exact e2
theorem op_eval {g : List D → Option Rs} {fa fb : FD} {r r1 r2 : Env} {a b : D} {z : Rs} (h1 : fa r = some (a, r1)) (h2 : fb r1 = some (b, r2)) (h3 : g [a, b] = some z) : dOp g fa fb r = some (z.w, r2) := by
  simp [dOp, dWith, fdCons, fdNil, h1, h2, h3]
theorem un_eval {g : List D → Option Rs} {fa : FD} {r r1 : Env} {a : D} {z : Rs} (h1 : fa r = some (a, r1)) (h3 : g [a] = some z) : dWith (fdCons fa fdNil) g r = some (z.w, r1) := by
  simp [dWith, fdCons, fdNil, h1, h3]
theorem asg_nw {f : ED} {r r1 : Env} {t : T} {i : Nat} (h : f r = some (.nw t, r1)) : dAsg (xLift f) (gdName i) r = some (.nx (r1.set i t)) := by
  simp [dAsg, xLift, h, mv, gdName]
theorem asg_sh {f : ED} {r r1 : Env} {d : D} {i : Nat} (h : f r = some (.sh d, r1)) : dAsg (xLift f) (gdName i) r = some (.nx (r1.set i (.fz d))) := by
  simp [dAsg, xLift, h, mv, share, gdName]
theorem sh_sh {f : ED} {r r1 : Env} {d : D} (h : f r = some (.sh d, r1)) : dSh f r = some (d, r1) := by
  simp [dSh, h, share]
theorem sh_nw {f : ED} {r r1 : Env} {t : T} {d : D} (h : f r = some (.nw t, r1)) (hd : t.data = some d) : dSh f r = some (d, r1) := by
  simp [dSh, h, share, hd]
theorem bl_of {f : FD} {r r1 : Env} {b : Bool} (h : f r = some (.bl b, r1)) : dBl f r = some (b, r1) := by
  simp [dBl, h, D.bool]
theorem call_sh {fn : FnT} {f : AD} {r r1 r2 : Env} {ws : List W} {ps ps' : List T} {d : D} (h1 : f r = some (ws, r1)) (h2 : pars r1 ws = some (ps, r2)) (h3 : fn ps = some (.ret (.fz d), ps')) (h4 : ps'.length = ws.length) (h5 : back r2 ws ps' = r2 := by rfl) : dCall fn f r = some (.sh d, r2) := by
  simp [dCall, h1, h2, h3, h4, h5, resW]
theorem mulW_small {i j : Int} (a b : Nat) (hi : i.natAbs < 2 ^ a) (hj : j.natAbs < 2 ^ b) (h : a + b ≤ 1000000) (h0 : 0 < a) (h1 : 0 < b) : CMulW i j := wide_mul hi hj h0 h1 h
end Q

set_option Elab.async false
set_option linter.all false
set_option maxRecDepth 100000
set_option maxHeartbeats 2000000
namespace Q
open PySem PySem.Spec PyProof.Rows L2
/-! ### in, not in -/
def D.eqF : D → D → Bool
  | .non, .non => true
  | .bl a, .bl b => a == b
  | .bl a, .int b => (if a then 1 else 0) == b
  | .int a, .bl b => a == (if b then 1 else 0)
  | .int a, .int b => a == b
  | .str a, .str b => a == b
  | _, _ => false
section
variable {K : PySem.W.Frag}
theorem scal_flat {G : Hp} {d : D} {v : V} (h : Rp K G d v) (e : d.scal = true) : flatV v = true := by
  cases h with
  | non => rfl
  | bl b => rfl
  | int i => rfl
  | str x => rfl
  | _ => cases e
theorem scal_eqV {G : Hp} {d d' : D} {v v' : V} (h : Rp K G d v) (h' : Rp K G d' v') (e : d.scal = true) (e' : d'.scal = true) : eqV v v' = D.eqF d d' := by
  cases h with
  | non => cases h' <;> first | rfl | cases e'
  | bl b => cases h' <;> first | rfl | cases e'
  | int i => cases h' <;> first | rfl | cases e'
  | str x => cases h' <;> first | rfl | cases e'
  | _ => cases e
theorem scals_flat {G : Hp} : ∀ {l : List D} {vs : List V}, RpL K G l vs → l.all D.scal = true → vs.all flatV = true
  | _, _, .nil, _ => rfl
  | _, _, .cons h q, e => by
    rw [List.all_cons, Bool.and_eq_true] at e ⊢
    exact ⟨scal_flat h e.1, scals_flat q e.2⟩
theorem scals_in {G : Hp} {x : D} {v : V} (hx : Rp K G x v) (ex : x.scal = true) : ∀ {l : List D} {vs : List V}, RpL K G l vs → l.all D.scal = true → inV v vs = l.any fun y => D.eqF y x
  | _, _, .nil, _ => rfl
  | _, _, .cons h q, e => by
    rw [List.all_cons, Bool.and_eq_true] at e
    have := scals_in hx ex q e.2
    unfold inV at this ⊢
    rw [List.any_cons, List.any_cons, scal_eqV h hx e.1 ex, this]
def gIn (neg : Bool) : List D → Option Rs
  | [x, y] => y.items.bind fun l => if x.scal = true ∧ l.all D.scal = true then some (.val (.bl (if neg then !(l.any fun y => D.eqF y x) else l.any fun y => D.eqF y x))) else none
  | _ => none
theorem dc_in {neg : Bool} : DC K (rl2 (rIn K neg)) (gIn neg) := fun G H xs vs z sb pl q e Q k => by
  unfold gIn at e
  split at e
  · obtain ⟨l, e1, e⟩ := Option.bind_eq_some_iff.mp e
    split at e
    · rename_i c
      cases e
      cases q with | cons p q => cases q with | cons p2 q =>
        cases q
        obtain ⟨a, us, rfl, h, r⟩ := items_rp sb p2 e1
        refine ⟨a, us, rfl, h, scal_flat p c.1, scals_flat r c.2, ?_⟩
        rw [scals_in p c.1 r c.2]
        exact k _ (.bl _)
    · cases e
  · cases e
/-! ### x in range(n) -/
def rRng1 : List V → Hp → VK → Prop := fun vs H Q => ∃ j, vs = [V.int j] ∧ ∀ p, H p = none → Q (.ref p) (upd H p (.rng 0 j))
theorem cr_range1 {X : Cx} : CallR X (.type "range") rRng1 := by
  intro pins s σ H vs us Q I r h
  obtain ⟨j, rfl, q⟩ := h
  obtain ⟨u1, rfl, ri⟩ := vals1 r
  obtain ⟨t, rfl⟩ := ri
  refine call_range_1 ⟨.ref s.heap.objs.size, upd H s.heap.objs.size (.rng 0 j), I.laid (t' := s.toks + 1 + 1) (fun b o e => Heap.get?_push_of_some _ e) (Nat.le_refl _) ?_, rfl, q _ (I.hok.fresh (Nat.le_refl _))⟩
  exact ⟨_, t, _, Heap.get?_push_size _ rfl⟩
def rInR (neg : Bool) : R2 := fun x y H Q => ∃ i a lo hi, x = V.int i ∧ y = V.ref a ∧ H a = some (.rng lo hi) ∧ Q (.bl (if neg then !decide (lo ≤ i ∧ i < hi) else decide (lo ≤ i ∧ i < hi))) H
theorem op_inR {X : Cx} : OpR X (compareOp .In) (rInR false) := op_in_rng
theorem op_notInR {X : Cx} : OpR X (compareOp .NotIn) (rInR true) := by
  intro pins s σ H x y v u Q I rx ry h
  obtain ⟨i, a, lo, hi, rfl, rfl, ha, q⟩ := h
  obtain ⟨k, rfl⟩ := rx
  obtain rfl : u = Value.ref a := ry
  obtain ⟨t1, t2, t3, ho⟩ := I.hok a _ ha
  show wpAny _ _ (do return Value.bool (!(← contains (Value.ref a) (Value.int i k)))) _ _ s
  refine wpAny_bind (wpAny_contains_slot (T := "range") ⟨_, ho, rfl⟩ F.slot_range_contains (call_meets F.slot_range_contains ⟨_, ho, rfl⟩ F.entry_range_contains (F.args_range_contains_2 _ _) (q_contains a lo hi i t1 t2 t3 k)
    ⟨ho, wpAny_truthy_bool (wpAny_pure ⟨.bl _, H, I, rfl, ?_⟩)⟩))
  rw [place1]
  exact q
def dInR (neg : Bool) (fx fn : FD) : ED := fun r => (fx r).bind fun p => (fn p.2).bind fun q => match p.1, q.1 with
  | .int i, .int n => some (.sh (.bl (if neg then !decide (0 ≤ i ∧ i < n) else decide (0 ≤ i ∧ i < n))), q.2)
  | _, _ => none
theorem de_inR {neg : Bool} {tx tn : TE} {fx fn : FD} (hx : DF K tx fx) (hn : DF K tn fn) : DE K (tOp (rInR neg) tx (tCB rRng1 (tCons tn tNil))) (dInR neg fx fn) := fun F G H r s tm us w r' I hl e Q q => by
  obtain ⟨⟨d, r1⟩, e1, e⟩ := Option.bind_eq_some_iff.mp e
  obtain ⟨⟨n, r2⟩, e2, e⟩ := Option.bind_eq_some_iff.mp e
  dsimp only at e
  split at e
  · cases e
    refine hx F G H r s tm us _ r1 I hl e1 _ fun v G1 H1 x1 I1 l1 q1 => ?_
    cases q1
    refine hn F G1 H1 r1 s tm us _ _ I1 l1 e2 _ fun v G2 H2 x2 I2 l2 q2 => ?_
    cases q2
    refine ⟨_, rfl, fun p hp => ⟨_, p, 0, _, rfl, rfl, upd_same, ?_⟩⟩
    exact q _ _ _ ((x1.trans x2).trans (Ex.new (I2.Gnone hp))) (by simpa only [W.tm, W.vl, List.append_nil] using I2.laid hp (o := .rng 0 _) (fun _ _ z => HO.noConfusion z)) l2 (.bl _)
  · cases e
/-! ### sum, int -/
def intsD : List D → Option (List Int)
  | [] => some []
  | .int i :: l => (intsD l).map (i :: ·)
  | _ => none
theorem intsD_rp {G : Hp} : ∀ {l : List D} {vs : List V} {ns : List Int}, RpL K G l vs → intsD l = some ns → vs = ns.map V.int
  | [], vs, ns, h, e => by cases h; cases e; rfl
  | d :: l, vs, ns, h, e => by
    cases d with
    | int i =>
      obtain ⟨ns', e1, e2⟩ := Option.map_eq_some_iff.mp (show (intsD l).map (i :: ·) = some ns from e)
      subst e2
      cases h with | cons h1 h2 => cases h1; rw [intsD_rp h2 e1]; rfl
    | _ => cases e
def gSum : List D → Option Rs
  | [.lst l] => (intsD l).bind fun ns => some (.val (.int ns.sum))
  | _ => none
theorem dc_sum : DC K (rSum K) gSum := fun G H xs vs z sb pl q e Q k => by
  unfold gSum at e
  split at e
  · obtain ⟨ns, e1, e⟩ := Option.bind_eq_some_iff.mp e
    cases e
    cases q with | cons p q =>
      cases q
      cases p with | lst a b => exact ⟨_, ns, rfl, by rw [← intsD_rp b e1]; exact Or.inl (Or.inl (sub_ex sb a)), k _ (.int _)⟩
  · cases e
def gInt : List D → Option Rs
  | [.int i] => some (.val (.int i))
  | [.bl b] => some (.val (.int (if b then 1 else 0)))
  | _ => none
theorem dc_int : DC K (fun xs H Q => (∃ i, xs = [V.int i] ∧ Q (.int i) H) ∨ ∃ k, xs = [V.bl k] ∧ Q (.int (if k then 1 else 0)) H) gInt := fun G H xs vs z sb pl q e Q k => by
  unfold gInt at e
  split at e
  · cases e
    cases q with | cons p q => cases q; cases p; exact Or.inl ⟨_, rfl, k _ (.int _)⟩
  · cases e
    cases q with | cons p q => cases q; cases p; exact Or.inr ⟨_, rfl, k _ (.int _)⟩
  · cases e
end
/-! ### a dict of the top, its keys texts: name.get(e) -/
def KTab (K : PySem.W.Frag) (w : World) (a : Addr) (tbl : Str → V) : Prop := ∃ es n, K.lookup a = some ⟨.type "dict", none, .dict es n, #[]⟩ ∧ PySem.W.KeysLit w.params es.toList ∧ (a == sysModules) = false ∧ ∀ x, RelV (tbl x) ((findBy Value.isStrOf es x).getD .none)
def rKGet (tbl : Str → V) : V → Hp → VK → Prop := fun y H Q => ∃ z, y = .str z ∧ Q (tbl z) H
section
variable {X : Cx} {e : Expr} {x : Str} {p apos cpos : Pos} {ty : TE} {a : Addr} {tbl : Str → V}
theorem pe_kget (hg : Gl X x) (hm : X.mg x = some (.ref a)) (kt : KTab X.K X.w a tbl) (he : PE X e ty) (m : M1 X (.Name x p) "get" apos e cpos) (hd : (x == ("__debug__" : Str)) = false := by decide) : PE X (.Call (.Attribute (.Name x p) "get" apos) [e] [] cpos) (tUn (rKGet tbl) ty) := by
  refine ⟨fun pins s σ H Q I h => ?_⟩
  obtain ⟨es, n, hl, hk, low, rel⟩ := kt
  refine wpAny_Call_method m.base m.few m.line PySem.F.plainAttrs_dict PySem.F.slot_dict_get PySem.F.type_dict_get (thn ((pe_glob (v := .ref a) (pos := p) hg hm rfl hd).run pins s σ H (fun v H1 => v = .ref a ∧ H1 = H) I ⟨rfl, rfl⟩) fun u s1 ⟨v, H1, I1, rv, ev⟩ => ?_)
  obtain ⟨rfl, rfl⟩ := ev
  obtain rfl : u = Value.ref a := rv
  have ha := I1.kIn _ _ hl
  refine ⟨⟨_, ha, rfl⟩, fun b q => by cases q; exact ⟨_, ha, rfl⟩, ?_⟩
  rw [m.trees]
  refine Calls.callWith_builtin rfl (Calls.evalArgs_plain (Calls.spliced_cons (thn (he.run pins s1 σ _ _ I1 h) fun iv s2 ⟨y, H2, I2, ry, z, ez, q2⟩ => Calls.spliced_nil ?_)))
  subst ez
  obtain ⟨t, rfl⟩ := (show ∃ t, iv = Value.str z t from ry)
  have hm' := PySem.W.mapOf_K (prog := X.prog) (w := X.w) I2.kIn hl hk
  exact call_meetsIn PySem.F.slot_dict_get hm'.typeIs PySem.F.entry_dict_get (PySem.F.args_dict_get_2 _ _) (meets_dict_get (strKind X.prog X.w) a (strKind_is X.prog X.w z t) low) ⟨_, hm', ⟨_, H2, I2.tok _, rel z, q2⟩⟩
end
section
variable {K : PySem.W.Frag}
def gKGet (tb : Str → D) : List D → Option Rs
  | [.str x] => some (.val (tb x))
  | _ => none
theorem dc_kget {tb : Str → D} {tbl : Str → V} (h : ∀ G x, Rp K G (tb x) (tbl x)) : DC K (rl1 (rKGet tbl)) (gKGet tb) := fun G H xs vs z sb pl q e Q k => by
  unfold gKGet at e
  split at e
  · cases e
    cases q with | cons p q => cases q; cases p; exact ⟨_, rfl, k _ (h G _)⟩
  · cases e
/-- texts and what they stand for -/
def tabD : List (Str × Int) → Str → D
  | [], _ => .non
  | (k, i) :: l, x => if k == x then .int i else tabD l x
def tabV : List (Str × Int) → Str → V
  | [], _ => .non
  | (k, i) :: l, x => if k == x then .int i else tabV l x
theorem tab_rp (G : Hp) : ∀ (l : List (Str × Int)) (x : Str), Rp K G (tabD l x) (tabV l x)
  | [], _ => .non
  | (k, i) :: l, x => by
    unfold tabD tabV
    split
    · exact .int i
    · exact tab_rp G l x
/-- an entry of a dict is this one -/
def EntIs (d : DictEntry) (p : Str × Int) : Prop := (∃ t, d.key = .str p.1 t) ∧ ∃ t, d.val = .int p.2 t
def EntsAre : List DictEntry → List (Str × Int) → Prop
  | [], [] => True
  | d :: ds, p :: ps => EntIs d p ∧ EntsAre ds ps
  | _, _ => False
theorem tab_find : ∀ {ds : List DictEntry} {ps : List (Str × Int)} (x : Str), EntsAre ds ps → RelV (tabV ps x) (((ds.find? fun e => Value.isStrOf x e.key).map (·.val)).getD .none)
  | [], [], x, _ => rfl
  | [], _ :: _, x, h => h.elim
  | _ :: _, [], x, h => h.elim
  | d :: ds, (k, i) :: ps, x, ⟨⟨⟨t, h1⟩, u, h2⟩, h⟩ => by
    rw [List.find?_cons]
    have : Value.isStrOf x d.key = (k == x) := by rw [h1]; rfl
    rw [this]
    unfold tabV
    cases c : k == x with
    | true => simp only [if_true, Option.map_some, Option.getD_some]; rw [h2]; exact ⟨u, rfl⟩
    | false => exact tab_find x h
theorem ktab_of {w : World} {a : Addr} {es : Array DictEntry} {n : Nat} {ps : List (Str × Int)} (hl : K.lookup a = some ⟨.type "dict", none, .dict es n, #[]⟩) (hk : PySem.W.KeysLit w.params es.toList) (low : (a == sysModules) = false) (h : EntsAre es.toList ps) : KTab K w a (tabV ps) := by
  refine ⟨es, n, hl, hk, low, fun x => ?_⟩
  obtain ⟨l⟩ := es
  unfold findBy
  rw [List.find?_toArray]
  exact tab_find x h
/-- a tuple of the top, of texts -/
def strsAre : List Value → List Str → Prop
  | [], [] => True
  | v :: vs, x :: xs => (∃ t, v = .str x t) ∧ strsAre vs xs
  | _, _ => False
theorem vals_strs : ∀ {vs : List Value} {xs : List Str}, strsAre vs xs → Vals (xs.map V.str) vs
  | [], [], _ => .nil
  | [], _ :: _, h => h.elim
  | _ :: _, [], h => h.elim
  | v :: vs, x :: xs, ⟨h1, h2⟩ => .cons h1 (vals_strs h2)
theorem rp_strs (G : Hp) : ∀ xs : List Str, RpL K G (xs.map D.str) (xs.map V.str)
  | [] => .nil
  | x :: xs => .cons (.str x) (rp_strs G xs)
theorem ktup_of {a : Addr} {dd : Option Addr} {sl : Array (Option Value)} {its : Array Value} {n : Nat} {xs : List Str} (hl : K.lookup a = some ⟨.type "tuple", dd, .seq its n, sl⟩) (hz : its.size ≤ sizeLine) (h : strsAre its.toList xs) (G : Hp) : Rp K G (.tup (xs.map D.str)) (.ref a) :=
  .tup (Or.inr ⟨_, its, n, hl, rfl, rfl, hz, vals_strs h⟩) (rp_strs G xs)
end
/-! ### f() -/
section
variable {X : Cx} {k : Nat} {x : Str} {fn : FnT} {E : L2.St → XK} {p pos : Pos}
theorem pe_fnE0 (Ef : FnE X.prog X.w X.K X.mg X.base k x [] fn) (hr : Room k X.A) (gu : X.A.guards = some []) (hg : Gl X x) (hx : ∀ σ, PassesAt (L2.CX X.prog X.w) X σ (E σ)) (hdb : (x == ("__debug__" : Str)) = false := by decide) :
    PE X (.Call (.Name x p) [] [] pos) (tCallS (spD X.K 0 fn) E tNil) := by
  obtain ⟨f, fd, G, hm, hk, hb⟩ := Ef.ex
  refine ⟨fun pins s σ H Q I h => ?_⟩
  refine wpAny_Call_Name_kw (ld_glob I hg hm ?_ hdb)
  exact PySem.W.callWith_K0 I.kIn hk (run_fn (us := []) (vs := []) G hr gu hb (hx σ) I .nil h)
end
/-! ### a def that calls itself -/
theorem fn_none {P : Program} {w : World} {K : PySem.W.Frag} {mg : Str → Option Value} {base : Heap} {k : Nat} {f : Addr} {fd : FuncData} {ps : List Str} : FnG P w K mg base k f fd ps (spD K ps.length fun _ => none) :=
  ⟨fun vs H Q E h => h.1, fun A outer s H args us vs Q E _ _ _ _ _ h => by
    obtain ⟨_, _, _, _, _, _, e, _⟩ := h
    cases e⟩
/-- what stands at the top of a def's name -/
structure Named (K : PySem.W.Frag) (mg : Str → Option Value) (x : Str) (f : Addr) (fd : FuncData) (ps : List Str) : Prop where
  at_ : mg x = some (.ref f)
  keep : PySem.W.keepIn K (.ref f) = true
  binds : Binds K fd ps []
end Q

set_option Elab.async false
set_option linter.all false
set_option maxRecDepth 100000
set_option maxHeartbeats 2000000
namespace Q
open PySem PySem.Spec PyProof.Rows L2
/-! ### how much lies in a thing -/
mutual
def D.size : D → Nat
  | .tup l => sizeL l + 1
  | .lst l => sizeL l + 1
  | _ => 1
def sizeL : List D → Nat
  | [] => 0
  | d :: l => d.size + sizeL l
end
def sizeAt (i : Nat) : Env → Nat := fun r => (match (r[i]?).bind T.data with
  | some d => d.size
  | none => 0) + 1
end Q

set_option Elab.async false
set_option linter.all false
set_option maxRecDepth 100000
set_option maxHeartbeats 2000000
namespace Q
open PySem PySem.Spec PyProof.Rows L2
section
variable {K : PySem.W.Frag}
/-! ### for x in reversed(list) -/
def dRev (f : FD) : ID := fun r => (f r).bind fun x => match x.1 with
  | .lst l => some (l.reverse, x.2)
  | _ => none
theorem rev_get {α : Type} {l : List α} {i : Nat} {d : α} (h : l.reverse[i]? = some d) : i < l.length ∧ l[l.length - 1 - i]? = some d := by
  have hi : i < l.length := by
    have := (List.getElem?_eq_some_iff.mp h).1
    rwa [List.length_reverse] at this
  refine ⟨hi, ?_⟩
  rw [List.getElem?_reverse hi] at h
  exact h
theorem walk_rev {a : Addr} {l : List D} {xs : List V} {G0 : Hp} (h : SqL K G0 a xs) (q : RpL K G0 l xs) : WalkD K (Itv K a xs.length) l.reverse G0 := fun F G H r x xg I i => by
  have hH : SqL K H a xs := sub_l I.pl I.gh (ex_l xg h)
  refine ⟨fun d hd => ?_, fun hl => ?_⟩
  · obtain ⟨hi, hd⟩ := rev_get hd
    obtain ⟨v, hv, hq⟩ := q.get hd
    have e : l.length = xs.length := q.length
    rw [e] at hv hi
    refine ⟨⟨hi, xs, v, hH, hv⟩, fun y H' ⟨e1, e2⟩ => ?_⟩
    subst e1
    have := e2 xs hH
    rw [hv] at this
    cases this
    exact ⟨G, Ex.refl G, I, hq.mono xg⟩
  · rw [List.length_reverse, q.length] at hl
    exact hl
theorem di_rev {te : TE} {f : FD} (h : DF K te f) : DI K (RT.iRevA K te) (dRev f) := fun F G H r s tm us l r' I hl e R q => by
  obtain ⟨⟨d, r1⟩, e1, e⟩ := Option.bind_eq_some_iff.mp e
  cases d with
  | lst l' =>
    cases e
    refine h F G H r s tm us _ r1 I hl e1 _ fun v G1 H1 x1 I1 l1 q2 => ?_
    cases q2 with | lst h1 h2 => exact ⟨_, _, rfl, Or.inl ⟨Or.inl (Or.inl (sub_ex I1.gh h1)), q _ G1 H1 x1 I1 l1 (walk_rev (Or.inl (Or.inl h1)) h2)⟩⟩
  | _ => cases e
/-! ### for x in range(i, j, -1) -/
def downto (i : Int) (n : Nat) : List D := (List.range n).map fun (k : Nat) => .int (i + (k : Int) * (-1))
def dRange3 (f : FDs) : ID := fun r => (f r).bind fun p => match p.1 with
  | [.int i, .int j, .int c] => if c = -1 ∧ -(2 ^ 62) ≤ i ∧ i < 2 ^ 62 ∧ -(2 ^ 62) ≤ j ∧ j < 2 ^ 62 then some (downto i (i - j).toNat, p.2) else none
  | _ => none
theorem walk_rc {lo : Int} {n : Nat} {G0 : Hp} : WalkD K (Itc lo (-1) n) (downto lo n) G0 := fun F G H r x xg I i => by
  unfold downto
  refine ⟨fun d hd => ?_, fun hl => by rw [List.length_map, List.length_range] at hl; exact hl⟩
  rw [List.getElem?_map] at hd
  by_cases c : i < n
  · rw [List.getElem?_range c] at hd
    cases hd
    refine ⟨c, fun y H' ⟨e1, e2⟩ => ?_⟩
    subst e1 e2
    exact ⟨G, Ex.refl G, I, .int _⟩
  · rw [List.getElem?_eq_none (by rw [List.length_range]; omega)] at hd
    cases hd
theorem di_range3 {ta : TA} {f : FDs} (h : DFs K ta f) : DI K (iRng3 ta) (dRange3 f) := fun F G H r s tm us l r' I hl e R q => by
  obtain ⟨⟨ds, r1⟩, e1, e⟩ := Option.bind_eq_some_iff.mp e
  dsimp only at e
  split at e
  · rename_i i j c
    split at e
    · rename_i cc
      cases e
      refine h F G H r s tm us _ _ I hl e1 _ fun vs G1 H1 x1 I1 l1 hv => ?_
      cases hv with | cons h1 h2 => cases h2 with | cons h2 h3 => cases h3 with | cons h3 h4 =>
        cases h4
        cases h1
        cases h2
        cases h3
        obtain ⟨c0, c1, c2, c3, c4⟩ := cc
        subst c0
        exact ⟨i, j, -1, (i - j).toNat, rfl, RgC.neg c1 c2 c3 c4, q _ G1 H1 x1 I1 l1 walk_rc⟩
    · cases e
  · cases e
/-! ### xs * k -/
def gMulL : List D → Option Rs
  | [.lst l, .int k] => if k ≤ 1000 ∧ l.length ≤ 1000 ∧ 0 ≤ k then some (.newL (List.replicate k.toNat l).flatten) else none
  | _ => none
theorem RpL.flat {G : Hp} {l : List D} {vs : List V} (h : RpL K G l vs) : ∀ n : Nat, RpL K G (List.replicate n l).flatten (List.replicate n vs).flatten
  | 0 => .nil
  | n + 1 => by
    rw [List.replicate_succ, List.replicate_succ, List.flatten_cons, List.flatten_cons]
    exact h.append (RpL.flat h n)
theorem dc_mulL : DC K (rl2 L2.rRep) gMulL := fun G H xs vs z sb pl q e Q k => by
  unfold gMulL at e
  split at e
  · rename_i l n
    split at e
    · rename_i c
      cases e
      cases q with | cons p q => cases q with | cons p2 q =>
        cases q
        cases p2
        cases p with | lst a b =>
          refine ⟨_, _, _, rfl, rfl, sub_ex sb a, by omega, by omega, ?_, fun p hp => k p _ hp (b.flat _)⟩
          rw [← b.length]
          have : l.length * n.toNat ≤ 1000 * 1000 := Nat.mul_le_mul c.2.1 (by omega)
          exact big (by omega)
    · cases e
  · cases e
/-! ### t[::-1], a tuple -/
end
section
variable {prog : Program} {w : World} {A : Around} {E : Value → Shared → Prop} {s : Shared}
theorem adjust_rev (n : Nat) : Builtin.Slice.sliceAdjust none none (-1) (n : Int) = ((n : Int) - 1, -1) := by
  unfold Builtin.Slice.sliceAdjust
  simp
theorem places_rev (n : Nat) : Builtin.Slice.slicePlaces ((n : Int) - 1) (-1) (-1) = n := by
  unfold Builtin.Slice.slicePlaces
  have h1 : ¬ ((-1 : Int) > 0) := by omega
  have e : ((n : Int) - 1 - -1 - -1 - 1) / (- -1) = (n : Int) := by
    rw [show (- -1 : Int) = 1 by decide, Int.ediv_one]
    omega
  simp only [h1, if_false, e]
  split
  · first | rfl | simp | omega
  · first | omega | simp
theorem sliceApplied_rev {sl : Addr} {vl vu vs : Value} {n : Nat} {Q : Int × Int × Nat → Shared → Prop} (hs : s.heap.IsSliceOf sl vl vu vs) (pl : IsPart vl none) (pu : IsPart vu none) (ps : IsPart vs (some (-1)))
    (h : Q ((n : Int) - 1, -1, n) s) : wpAny (model prog w) A (Builtin.Slice.sliceApplied (.ref sl) (pure (n : Int))) Q E s := by
  obtain ⟨os, hos, hcs, hds⟩ := id hs
  unfold Builtin.Slice.sliceApplied Builtin.Slice.sliceFields
  refine wpAny_bind (wpAny_bind (wpAny_field hos hds (x := vl) rfl (wpAny_bind (wpAny_field hos hds (x := vu) rfl (wpAny_bind (wpAny_field hos hds (x := vs) rfl (wpAny_pure ?_)))))))
  refine wpAny_bind (HT.slicePart_ ps ?_)
  show wpAny _ _ (if ((-1 : Int) == 0) = true then _ else _) _ _ s
  rw [if_neg (by decide)]
  refine wpAny_bind (HT.slicePart_ pl (wpAny_bind (HT.slicePart_ pu (wpAny_bind (wpAny_pure ?_)))))
  show wpAny _ _ (match Builtin.Slice.sliceAdjust none none (-1) (n : Int) with | (lo, hi) => pure (lo, (-1 : Int), Builtin.Slice.slicePlaces lo hi (-1))) _ _ s
  rw [adjust_rev n]
  show wpAny _ _ (pure ((n : Int) - 1, (-1 : Int), Builtin.Slice.slicePlaces ((n : Int) - 1) (-1) (-1))) _ _ s
  rw [places_rev]
  exact wpAny_pure h
theorem fm_congr {α β : Type} {f g : α → Option β} : ∀ {l : List α}, (∀ x ∈ l, f x = g x) → l.filterMap f = l.filterMap g
  | [], _ => rfl
  | a :: l, h => by rw [List.filterMap_cons, List.filterMap_cons, h a (by simp), fm_congr fun x hx => h x (by simp [hx])]
theorem pick_rev (xs : Array Value) : ((List.range xs.size).filterMap fun (m : Nat) => xs[(((xs.size : Nat) : Int) - 1 + (m : Int) * (-1)).toNat]?).toArray = xs.toList.reverse.toArray := by
  have h := PySem.W.krv_all xs
  have e : (List.range xs.size).filterMap (fun (m : Nat) => xs[(((xs.size : Nat) : Int) - 1 + (m : Int) * (-1)).toNat]?) = ((List.range xs.size).map fun k => xs.size - 1 - k).filterMap (xs[·]?) := by
    rw [List.filterMap_map]
    apply fm_congr
    intro k hk
    have := List.mem_range.mp hk
    have e2 : (((xs.size : Nat) : Int) - 1 + (k : Int) * (-1)).toNat = xs.size - 1 - k := by omega
    rw [e2]
    rfl
  rw [e, PySem.W.krv_range, List.filterMap_reverse, h]
theorem getItem_tuple_rev {t sl : Addr} {items : Array Value} {vl vu vs : Value} {Q : Value → Shared → Prop} (ht : IsTup s.heap t items) (hs : s.heap.IsSliceOf sl vl vu vs) (pl : IsPart vl none) (pu : IsPart vu none) (ps : IsPart vs (some (-1)))
    (h : Q (.ref s.heap.objs.size) { s with heap := s.heap.push { cls := .type "tuple", data := .seq items.toList.reverse.toArray } }) (hsz : items.size ≤ sizeLine) : wpAny (model prog w) A (getItem (.ref t) (.ref sl)) Q E s := by
  have htake : sizeOk (.seq items.toList.reverse.toArray) := by
    show items.toList.reverse.toArray.size ≤ sizeLine
    rw [List.size_toArray, List.length_reverse, Array.length_toList]
    exact hsz
  obtain ⟨os, hos, hcs, hds⟩ := id hs
  have hTs : s.TypeIs (.ref sl) "slice" := ⟨os, hos, hcs⟩
  unfold getItem
  try with_reducible refine wpAny_holding ?_
  first | refine wpAny_bind (wpAny_pure ?_) | skip
  refine wpAny_bind (wpAny_sequenceKey ht.typeIs (by decide) ?_)
  refine wpAny_bind (wpAny_callSpecial?_slot (name := Str.ofString "__getitem__") ht.typeIs PyProof.Rows.slot_tuple_getitem
    (wpAny_call_entry PyProof.Rows.slot_tuple_getitem ht.typeIs entry_tuple_getitem ?_ (args_tuple_getitem _ _)))
  show wpAny _ _ (Builtin.Tuple.tupleItemsOf (.ref t) >>= _) _ _ s
  refine wpAny_bind (tupleItemsOf_ ht ?_)
  refine wpAny_bind (wpAny_typeOf hTs ?_)
  rw [if_pos (by decide)]
  refine wpAny_bind (sliceApplied_rev hs pl pu ps ?_)
  have hno : ¬ ((((items.size : Nat) : Int) - 1 == 0 && (-1 : Int) == 1 && items.size == items.size) = true) := by
    intro q
    rw [Bool.and_eq_true, Bool.and_eq_true] at q
    exact absurd q.1.2 (by decide)
  show wpAny _ _ (if (((items.size : Nat) : Int) - 1 == 0 && (-1 : Int) == 1 && items.size == items.size) = true then _ else _) _ _ s
  rw [if_neg hno, pick_rev]
  first
    | exact wpAny_bind (m := Builtin.Tuple.tupleExact _) (wpAny_newObj_type (wpAny_pure ⟨_, rfl, wpAny_pure h⟩) htake)
    | exact wpAny_bind (m := Builtin.Tuple.tupleExact _) (wpAny_newObj_type (wpAny_bind (wpAny_pure (wpAny_pure ⟨_, rfl, wpAny_pure h⟩))) htake)
    | exact wpAny_bind (wpAny_bind (m := Builtin.Tuple.tupleExact _) (wpAny_newObj_type (wpAny_pure (wpAny_pure ⟨_, rfl, wpAny_pure h⟩)) htake))
    | exact wpAny_bind (wpAny_bind (m := Builtin.Tuple.tupleExact _) (wpAny_newObj_type (wpAny_pure ⟨_, rfl, wpAny_pure h⟩) htake))
end
end Q

set_option Elab.async false
set_option linter.all false
set_option maxRecDepth 100000
set_option maxHeartbeats 2000000
namespace PySem.AutoSeq1
set_option maxRecDepth 8000 in
theorem own_extend_tuple (l : Addr) (items : Array Value) (n : Nat) (b : Addr) (items2 : Array Value) (n2 : Nat) (dd : Option Addr) (sl : Array (Option Value)) (hs0 : ¬(!items.isEmpty && Builtin.List.listTooLong (items.size + items2.size)) = true) (hs1 : items.size ≤ sizeLine) (hs2 : items.size + items2.size ≤ sizeLine + 1) :
    Meets (Builtin.«list.extend» ⟨[.ref l, .ref b], []⟩) (fun _ R s => s.heap.get? l = some { cls := .type "list", dict := none, data := .seq items n, slots := #[] } ∧ s.heap.get? b = some { cls := .type "tuple", dict := dd, data := .seq items2 n2, slots := sl } ∧ R (.ok (.ret Value.none)) { s with heap := s.heap.update l (Obj.mapSeq fun x => x ++ items2), toks := s.toks }) :=
  .of_wp fun prog w A R s h => by
    obtain ⟨hp, g, d, tk, os⟩ := s; obtain ⟨hl, hb, h⟩ := h; have f1 := idx_int; have f2 := sub_tuple_tuple; have f3 := sub_list_list; have f4 := sub_tuple_list; have f5 := sub_list_tuple;
    have hz' : (items ++ items2).size ≤ sizeLine + 1 := by rw [Array.size_append]; exact hs2
    wp_walk using (wpAny_updateSeq hl rfl (hz := hs1) (_hz' := hz')), wpAny_loadPart' hl, wpAny_loadPart' hb; exact ⟨_, rfl, h⟩
end PySem.AutoSeq1
namespace Q
open PySem PySem.Spec PyProof.Rows L2
/-! ### t[::-1] -/
def rRevT (K : PySem.W.Frag) : V → Hp → VK → Prop := fun x H Q => ∃ a xs, x = .ref a ∧ SqT K H a xs ∧ ∀ p, H p = none → Q (.ref p) (upd H p (.tup xs.reverse))
section
variable {X : Cx}
theorem pe_revT {e : Expr} {te : TE} {k : Nat} {p1 p2 p3 pos : Pos} (he : PE X e te) : PE X (.Subscript e (.Slice none none (some (.UnaryOp .USub (.Constant (.int 1) k p1) p2)) p3) pos) (tUn (rRevT X.K) te) := by
  refine ⟨fun pins s σ H Q I h => ?_⟩
  refine Subscript_ (thn (he.run pins s σ H _ I h) fun v s1 ⟨x, H1, I1, r1, q1⟩ => ?_)
  obtain ⟨a, xs, ex, hx, q⟩ := q1
  subst ex
  cases r1
  have hst : PO X (some (.UnaryOp .USub (.Constant (.int 1) k p1) p2)) (tPart (tUn (rU fun i => .int (-i)) (tC (.int 1)))) := po_some (pe_un un_neg pe_int)
  refine wpAny_Slice (thn (po_none.run pins s1 σ H1 (fun o H2 => o = none ∧ H2 = H1) I1 ⟨rfl, rfl⟩) fun vl s2 ⟨l, H2, I2, pl, el, e2⟩ => ?_)
  subst el e2
  refine thn (po_none.run pins s2 σ H2 (fun o H3 => o = none ∧ H3 = H2) I2 ⟨rfl, rfl⟩) fun vu s3 ⟨u, H3, I3, pu, eu, e3⟩ => ?_
  subst eu e3
  refine thn (hst.run pins s3 σ H3 (fun o H4 => o = some (-1) ∧ H4 = H3) I3 ⟨1, rfl, -1, rfl, rfl, rfl⟩) fun vs s4 ⟨o, H4, I4, ps, eo, e4⟩ => ?_
  subst eo e4
  have I5 : Inv X pins σ H4 { s4 with heap := s4.heap.push { cls := .type "slice", data := .fields #[vl, vu, vs] } } := I4.kept (t' := s4.toks) fun b ob q => Heap.get?_push_of_some _ q
  obtain ⟨its, r, ht, hz⟩ := I5.tuple hx
  have hlen := r.length
  show wpAny (model X.prog X.w) X.A (subscriptTail e (.Slice none none (some (.UnaryOp .USub (.Constant (.int 1) k p1) p2)) p3) (.ref a) (.ref s4.heap.objs.size)) (EP X pins σ Q) X.xe { s4 with heap := s4.heap.push { cls := .type "slice", data := .fields #[vl, vu, vs] } }
  refine tail_any (ops := [.ref a, .ref s4.heap.objs.size]) ht.typeIs (PyProof.Rows.slot_tuple_getitem.lookup) ?_ (by with_unfolding_all rfl)
  refine getItem_tuple_rev ht (Heap.IsSliceOf.new _ vl vu vs) pl pu ps ?_ (by rw [List.size_toArray]; omega)
  refine ⟨.ref _, _, I5.laid (t' := s4.toks) (o := .tup xs.reverse) (fun b ob q => Heap.get?_push_of_some _ q) (Nat.le_refl _) ?_, rfl, q _ (I5.hok.fresh (Nat.le_refl _))⟩
  exact ⟨by rw [List.length_reverse]; exact hz, _, r.reverse, IsTup.new _ _⟩
/-! ### xs.extend(t) -/
def rExtT (K : PySem.W.Frag) : V → List V → Hp → VK → Prop := fun x vs H Q => ∃ l b xs zs, x = .ref l ∧ vs = [.ref b] ∧ H l = some (.lst xs) ∧ SqT K H b zs ∧ xs.length + zs.length ≤ sizeLine ∧ Q .non (upd H l (.lst (xs ++ zs)))
theorem mt_extendT : MtM X "list.extend" (rExtT X.K) := by
  intro pins s σ H x vs v us Q I rx rv h
  obtain ⟨l, b, xs, zs, rfl, rfl, hH, hB, hz, q⟩ := h
  cases rx
  obtain ⟨u, rfl, ru⟩ := rv.one
  cases ru
  obtain ⟨z, its, n, r, hl, e⟩ := I.lstM hH
  obtain ⟨its2, r2, ⟨⟨cls, dd, data, sl⟩, ho, hc, n2, hd⟩, hz2⟩ := I.tuple hB
  simp only at hc hd
  subst hc hd
  have hl2 := r2.length
  have hsz : its.toArray.size + its2.toArray.size ≤ sizeLine := by rw [List.size_toArray, List.size_toArray]; omega
  have hlong : ¬ (!its.toArray.isEmpty && Builtin.List.listTooLong (its.toArray.size + its2.toArray.size)) = true := by
    rw [notLongL hsz, Bool.and_false]
    exact Bool.false_ne_true
  refine call_meets F.slot_list_extend ⟨_, e, rfl⟩ F.entry_list_extend (F.args_list_extend_2 _ _)
    (AutoSeq1.own_extend_tuple l its.toArray n b its2.toArray n2 dd sl hlong (by rw [List.size_toArray]; omega) (by omega)) ⟨e, ho, ?_⟩
  refine ⟨.non, _, I.lset (its' := its ++ its2) hH e (by simp) (r.append r2) ?_, rfl, q⟩
  rw [List.length_append]
  omega
end
section
variable {K : PySem.W.Frag}
def gRevT : List D → Option Rs
  | [.tup l] => some (.newT l.reverse)
  | _ => none
theorem dc_revT : DC K (rl1 (rRevT K)) gRevT := fun G H xs vs z sb pl q e Q k => by
  unfold gRevT at e
  split at e
  · cases e
    cases q with | cons p q =>
      cases q
      cases p with | tup a b => exact ⟨_, _, rfl, sub_t pl sb a, fun p hp => k.2 p _ hp b.reverse⟩
  · cases e
/-- name.extend(e), e a tuple -/
def dExtend (i : Nat) (f : FD) : ED := fun r => if isLs r[i]? = true then (f r).bind fun p => match p.1, p.2[i]? with
  | .tup t, some (.ls l) => if l.length + t.length ≤ 1000000 then some (.sh .non, p.2.set i (.ls (l ++ t.map .fz))) else none
  | _, _ => none
  else none
theorem de_extend {i : Nat} {te : TE} {f : FD} (h : DF K te f) : DE K (tBM K "list" (rExtT K) (tVar i) (tCons te tNil)) (dExtend i f) := fun F G H r s tm us w r' I hl e Q q => by
  unfold dExtend at e
  split at e
  case isFalse => cases e
  rename_i hls
  obtain ⟨⟨d, r1⟩, e1, e⟩ := Option.bind_eq_some_iff.mp e
  dsimp only at e
  split at e
  · rename_i t l hr
    split at e
    · rename_i c
      cases e
      obtain ⟨l0, hr0⟩ := isLs_of hls
      obtain ⟨a, vs0, f0, z1, z2, _⟩ := I.listAt (get_left hr0)
      have z1' := of_left hl hr0 z1
      refine ⟨.ref a, z1', Or.inl ⟨rfl, _, Or.inl (Or.inl z2)⟩, ?_⟩
      refine h F G H r s tm us _ _ I hl e1 _ fun v G1 H1 x1 I1 l1 hd => ?_
      cases hd with | @tup b zs _ t1 t2 =>
        have J0 := I1
        obtain ⟨b', vs, y1, y2, y3, ge, gt, c1, c2, c3, fin⟩ := SI.relist (r := r1 ++ tm) (x := s ++ us) (ts := []) (ys := []) (by simpa only [List.append_nil] using I1) I1.len (get_left hr)
        have y1' := of_left l1 hr y1
        rw [z1'] at y1'
        cases y1'
        have J := fin (l ++ t.map .fz) (vs ++ zs) [] [] ge (fun _ => False) (by
          rw [List.map_append]
          have := (RtL.fzs (H := H1) t2).app c1 (fun b _ z => z)
          exact this.weak fun b hb => hb.elim (fun z => z) fun z => z.elim) .nil (fun b hb => Or.inl hb) (fun b hb => hb.elim) (fun b _ z => z)
        rw [set_left hr, List.append_nil, List.append_nil] at J
        exact ⟨a, b, vs, zs, rfl, rfl, y2, sub_t I1.pl I1.gh t1, big (by rw [← y3, ← t2.length]; exact c), q _ G1 _ x1 (by simpa only [W.tm, W.vl, List.append_nil] using J) (by rw [List.length_set]; exact l1) .non⟩
    · cases e
  · cases e
/-! ### a call of a name that holds a def -/
def tCallV (i : Nat) (S : Addr → Option Sp) (t : TA) : TE := fun σ H Q => ∃ f sp, σ[i]? = some (some (.ref f)) ∧ S f = some sp ∧ t σ H fun vs H1 => sp vs H1 Q (fun _ _ _ => False)
structure HeldG (P : Program) (w : World) (K : PySem.W.Frag) (mg : Str → Option Value) (base : Heap) (k : Nat) (f : Addr) (sp : Sp) : Prop where
  ex : ∃ (fd : FuncData) (ps : List Str), FnG P w K mg base k f fd ps sp ∧ PySem.W.keepIn K (.ref f) = true ∧ Binds K fd ps []
end
section
variable {X : Cx} {k i : Nat} {x : Str} {p pos : Pos} {e : Expr} {es : List Expr} {t : TA}
theorem pe_callV {S : Addr → Option Sp} (A : ∀ f sp, S f = some sp → HeldG X.prog X.w X.K X.mg X.base k f sp) (hr : Room k X.A) (gu : X.A.guards = some []) (hN : X.N[i]? = some x) (hv : Vis X.env.scope x) (ha : PA X (e :: es) t)
    (hdb : (x == ("__debug__" : Str)) = false := by decide) (hcd : (x == ("__classdict__" : Str)) = false := by decide)
    (he : starEach (e :: es) X.env = (false, eval e X.env) :: starEach es X.env := by rfl) (hpl : (backTo pos (starEach es X.env)).any (·.1) = false := by rfl) : PE X (.Call (.Name x p) (e :: es) [] pos) (tCallV i S t) := by
  refine ⟨fun pins s σ H Q I h => ?_⟩
  obtain ⟨f, sp, hs, hS, ht⟩ := h
  obtain ⟨fd, ps, F, hk, hb⟩ := (A f sp hS).ex
  refine wpAny_Call_Name_kw (thn ((pe_var (pos := p) hN hv hdb hcd).run pins s σ H (fun v H1 => v = .ref f ∧ H1 = H) I ⟨.ref f, hs, rfl, rfl⟩) fun u s1 ⟨v, H1, I1, r1, q1⟩ => ?_)
  obtain ⟨rfl, rfl⟩ := q1
  cases r1
  refine PySem.W.callWith_K (h₀ := X.base) I.ok.mod.kin hk (thn (ha.run pos pins s1 σ _ _ I1 ht) fun us s2 ⟨vs, H2, I2, r, q⟩ => ⟨I2.kIn, ?_⟩) he hpl
  exact run_fn (E := fun _ _ _ _ => False) F hr gu hb (passNo σ) I2 r q
end
theorem held_of {P : Program} {w : World} {K : PySem.W.Frag} {mg : Str → Option Value} {base : Heap} {j k : Nat} {x : Str} {ps : List Str} {fn : FnT} {a : Addr} (E : FnE P w K mg base j x ps fn) (h : mg x = some (.ref a)) (l : j ≤ k) : HeldG P w K mg base k a (spD K ps.length fn) := by
  obtain ⟨f, fd, G, hm, hk, hb⟩ := E.ex
  rw [h] at hm
  cases hm
  exact ⟨fd, ps, G.mono l, hk, hb⟩
section
variable {K : PySem.W.Frag}
def dCallV (i : Nat) (tab : Addr → Option FnT) (f : AD) : ED := fun r => match r[i]? with
  | some (.fz (.fnc a)) => (tab a).bind fun fn => dCall fn f r
  | _ => none
theorem de_callV {i n : Nat} {tab : Addr → Option FnT} {f : AD} {ta : TA} (hn : ∀ a fn, tab a = some fn → ∀ ps z, fn ps = some z → ps.length = n) (h : DA K ta f) : DE K (tCallV i (fun a => (tab a).map fun fn => spD K n fn) ta) (dCallV i tab f) := fun F G H r s tm us w r' I hl e Q q => by
  unfold dCallV at e
  split at e
  · rename_i a hr
    obtain ⟨fn, e1, e⟩ := Option.bind_eq_some_iff.mp e
    obtain ⟨v, hv⟩ := I.val hl hr (by intro z; cases z)
    obtain ⟨ff, hrr, _⟩ := I.own
    obtain ⟨y, g, k1, k2⟩ := hrr.get (get_left hr)
    have k1' := of_left hl hr k1
    rw [hv] at k1'
    cases k1'
    cases k2 with | fz qq =>
      cases qq
      refine ⟨a, spD K n fn, hv, by show (tab a).map _ = _; rw [e1]; rfl, ?_⟩
      have := de_fn (E := fun _ _ _ _ => False) (hn a fn e1) h F G H r s tm us w r' I hl e Q q
      exact this
  · cases e
end
end Q

set_option Elab.async false
set_option linter.all false
set_option maxRecDepth 100000
set_option maxHeartbeats 4000000
namespace K5
open PySem PySem.Spec PyProof.Rows L2 Q
def topS (i : Nat) : Stmt := PySem.Challenge.pw_roadsay_k50_sayings_turned_about.main.body.getD i (.Pass ⟨0, 0, 0, 0⟩)
def FU : Nat := 190
def t_FIELD_WORDS : List Str := ["is", "put"]
def t_LENGTHS : List (Str × Int) := [("yes", 1), ("no", 1), ("note", 1), ("is", 3), ("put", 3), ("then", 3), ("either", 3), ("again", 2), ("not", 2)]
def t_TEST_WORDS : List Str := ["yes", "no", "is", "then", "either", "not"]
def tok_MOST_FIELDS (mg : Str → Option Value) : Tok := match mg "MOST_FIELDS" with
  | some (.int _ t) => t
  | _ => 0
def tok_MOST_LETTERS (mg : Str → Option Value) : Tok := match mg "MOST_LETTERS" with
  | some (.int _ t) => t
  | _ => 0
def tok_MOST_NOTES (mg : Str → Option Value) : Tok := match mg "MOST_NOTES" with
  | some (.int _ t) => t
  | _ => 0
def tok_MOST_VALUES (mg : Str → Option Value) : Tok := match mg "MOST_VALUES" with
  | some (.int _ t) => t
  | _ => 0
structure Zs where
  SayError : Addr
  NoShape : Addr
  NoSaying : Addr
  FIELD_WORDS : Addr
  LENGTHS : Addr
  TEST_WORDS : Addr
  f_turned_inner : Addr
structure Txt (K : PySem.W.Frag) (mg : Str → Option Value) (Z : Zs) (w : World) : Prop where
  b_bool : mg "bool" = none
  b_int : mg "int" = none
  b_isinstance : mg "isinstance" = none
  b_len : mg "len" = none
  b_min : mg "min" = none
  b_range : mg "range" = none
  b_repr : mg "repr" = none
  b_reversed : mg "reversed" = none
  b_str : mg "str" = none
  b_tuple : mg "tuple" = none
  k_FIELD_WORDS : mg "FIELD_WORDS" = some (.ref Z.FIELD_WORDS)
  r_FIELD_WORDS : ∀ G, Rp K G (.tup (t_FIELD_WORDS.map D.str)) (.ref Z.FIELD_WORDS)
  k_LENGTHS : mg "LENGTHS" = some (.ref Z.LENGTHS)
  r_LENGTHS : KTab K w Z.LENGTHS (tabV t_LENGTHS)
  k_MOST_FIELDS : mg "MOST_FIELDS" = some (.int 3 (tok_MOST_FIELDS mg))
  k_MOST_LETTERS : mg "MOST_LETTERS" = some (.int 27 (tok_MOST_LETTERS mg))
  k_MOST_NOTES : mg "MOST_NOTES" = some (.int 5 (tok_MOST_NOTES mg))
  k_MOST_VALUES : mg "MOST_VALUES" = some (.int 4 (tok_MOST_VALUES mg))
  k_TEST_WORDS : mg "TEST_WORDS" = some (.ref Z.TEST_WORDS)
  r_TEST_WORDS : ∀ G, Rp K G (.tup (t_TEST_WORDS.map D.str)) (.ref Z.TEST_WORDS)
  g_turned_inner : mg "turned_inner" = some (.ref Z.f_turned_inner)
  c_SayError : mg "SayError" = some (.ref Z.SayError)
  c_NoShape : mg "NoShape" = some (.ref Z.NoShape)
  c_NoSaying : mg "NoSaying" = some (.ref Z.NoSaying)
  x_NoSaying : PySem.W.excIn K Z.NoSaying [.type "ValueError", .type "Exception", .type "BaseException", .type "object"] "ValueError.__new__" = true
  p_NoSaying : PySem.W.keepIn K (.ref Z.NoSaying) = true
  u_NoSaying : PySem.W.subIn K (.ref Z.NoSaying) (.type "BaseException") = some true
  t_NoSaying : PySem.W.typeIn K (.ref Z.NoSaying) = some (.type "type")
  x_NoShape : PySem.W.excIn K Z.NoShape [.type "ValueError", .type "Exception", .type "BaseException", .type "object"] "ValueError.__new__" = true
  p_NoShape : PySem.W.keepIn K (.ref Z.NoShape) = true
  u_NoShape : PySem.W.subIn K (.ref Z.NoShape) (.type "BaseException") = some true
  t_NoShape : PySem.W.typeIn K (.ref Z.NoShape) = some (.type "type")
/-! ### is_number -/
abbrev s_is_number : Stmt := topS 5
abbrev N_is_number : List Str := ["thing"]
theorem sc_is_number : FnScope N_is_number ["thing"] (defScope s_is_number) := ⟨rfl, rfl, rfl, by decide +kernel, rfl, by decide +kernel, by decide +kernel⟩
def b_is_number : SD :=
  (dRet (xLift (dBool (dAnd (dBl (dSh (dIsi .int (dSh (dVar 0))))) (dBl (dSh (dBool (dNot (dBl (dSh (dIsi .bool (dSh (dVar 0)))))))))))))
def fn_is_number : FnT := fnD 1 1 [true] (b_is_number)
/-! ### is_below -/
abbrev s_is_below : Stmt := topS 6
abbrev N_is_below : List Str := ["thing", "most"]
theorem sc_is_below : FnScope N_is_below ["thing", "most"] (defScope s_is_below) := ⟨rfl, rfl, rfl, by decide +kernel, rfl, by decide +kernel, by decide +kernel⟩
def b_is_below : SD :=
  (dRet (xLift (dBool (dAnd (dBl (dSh (dCall fn_is_number (daCons (dVar 0) daNil)))) (dBl (dSh (dChain gLe gLt (dSh (dC (.int 0))) (dSh (dVar 0)) (dSh (dVar 1)))))))))
def fn_is_below : FnT := fnD 2 2 [true, true] (b_is_below)
/-! ### is_shape -/
abbrev s_is_shape : Stmt := topS 11
abbrev N_is_shape : List Str := ["thing", "many", "values"]
theorem sc_is_shape : FnScope N_is_shape ["thing"] (defScope s_is_shape) := ⟨rfl, rfl, rfl, by decide +kernel, rfl, by decide +kernel, by decide +kernel⟩
def b_is_shape : SD :=
  (dSeq (dIf (xbLift (dOr (dNot (dBl (dSh (dIsi .tuple (dSh (dVar 0)))))) (dNot (dBl (dSh (dChain gLe gLe (dSh (dC (.int 1))) (dSh (dWith (fdCons (dSh (dVar 0)) fdNil) gLen)) (dSh (dC (.int 3))))))))) (dRet (xLift (dC (.bl false)))) dNext)
    (dSeq (dAsg (xLift (dC (.int 1))) (gdName 1))
    (dSeq (dFor (dItemsT (dSh (dVar 0))) (gdName 2) (dSeq (dIf (xbLift (dOr (dNot (dBl (dSh (dCall fn_is_number (daCons (dVar 2) daNil))))) (dNot (dBl (dSh (dChain gLe gLe (dSh (dC (.int 1))) (dSh (dVar 2)) (dSh (dC (.int 4))))))))) (dRet (xLift (dC (.bl false)))) dNext)
    (dAug 1 gMul1 (dSh (dVar 2)))))
    (dRet (xLift (dOp gLe (dSh (dVar 1)) (dSh (dC (.int 27)))))))))
def fn_is_shape : FnT := fnD 1 3 [true] (b_is_shape)
/-! ### check_shape -/
abbrev s_check_shape : Stmt := topS 12
abbrev N_check_shape : List Str := ["shape"]
theorem sc_check_shape : FnScope N_check_shape ["shape"] (defScope s_check_shape) := ⟨rfl, rfl, rfl, by decide +kernel, rfl, by decide +kernel, by decide +kernel⟩
def b_check_shape (Z : Zs) : SD :=
  (dIf (xbLift (dNot (dBl (dSh (dCall fn_is_shape (daCons (dVar 0) daNil)))))) (dRaise Z.NoShape) dNext)
def fn_check_shape (Z : Zs) : FnT := fnD 1 1 [true] (b_check_shape Z)
/-! ### has_part_form -/
abbrev s_has_part_form : Stmt := topS 18
abbrev N_has_part_form : List Str := ["shape", "thing", "word"]
theorem sc_has_part_form : FnScope N_has_part_form ["shape", "thing"] (defScope s_has_part_form) := ⟨rfl, rfl, rfl, by decide +kernel, rfl, by decide +kernel, by decide +kernel⟩
def b_has_part_form : SD :=
  (dSeq (dIf (xbLift (dOr (dNot (dBl (dSh (dIsi .tuple (dSh (dVar 1)))))) (dBl (dSh (dOp gEq (dSh (dWith (fdCons (dSh (dVar 1)) fdNil) gLen)) (dSh (dC (.int 0)))))))) (dRet (xLift (dC (.bl false)))) dNext)
    (dSeq (dAsg (xLift (dOp gIx (dSh (dVar 1)) (dSh (dC (.int 0))))) (gdName 2))
    (dSeq (dIf (xbLift (dOr (dNot (dBl (dSh (dIsi .str (dSh (dVar 2)))))) (dBl (dSh (dOp gNe (dSh (dUn (gKGet (tabD t_LENGTHS)) (dSh (dVar 2)))) (dSh (dWith (fdCons (dSh (dVar 1)) fdNil) gLen))))))) (dRet (xLift (dC (.bl false)))) dNext)
    (dSeq (dIf (xbLift (dBl (dSh (dOp (gIn false) (dSh (dVar 2)) (dSh (dC (.tup (t_FIELD_WORDS.map D.str)))))))) (dRet (xLift (dBool (dAnd (dBl (dSh (dCall fn_is_below (daCons (dOp gIx (dSh (dVar 1)) (dSh (dC (.int 1)))) (daCons (dWith (fdCons (dSh (dVar 0)) fdNil) gLen) daNil))))) (dBl (dSh (dCall fn_is_below (daCons (dOp gIx (dSh (dVar 1)) (dSh (dC (.int 2)))) (daCons (dOp gIx (dSh (dVar 0)) (dSh (dOp gIx (dSh (dVar 1)) (dSh (dC (.int 1)))))) daNil))))))))) dNext)
    (dRet (xLift (dC (.bl true))))))))
def fn_has_part_form : FnT := fnD 2 3 [true, true] (b_has_part_form)
/-! ### inner_parts -/
abbrev s_inner_parts : Stmt := topS 19
abbrev N_inner_parts : List Str := ["part"]
theorem sc_inner_parts : FnScope N_inner_parts ["part"] (defScope s_inner_parts) := ⟨rfl, rfl, rfl, by decide +kernel, rfl, by decide +kernel, by decide +kernel⟩
def b_inner_parts : SD :=
  (dRet (xLift (dIfE (dBl (dSh (dOp (gIn false) (dSh (dOp gIx (dSh (dVar 0)) (dSh (dC (.int 0))))) (dSh (dC (.tup (t_FIELD_WORDS.map D.str))))))) (dWith fdNil gTupD) (dSl gSlT (dSh (dVar 0)) (pAt (dSh (dC (.int 1)))) pNo))))
def fn_inner_parts : FnT := fnD 1 1 [true] (b_inner_parts)
/-! ### is_made_well -/
abbrev s_is_made_well : Stmt := topS 20
abbrev N_is_made_well : List Str := ["shape", "thing", "as_test", "notes", "waiting", "part", "in_test", "word", "inner"]
theorem sc_is_made_well : FnScope N_is_made_well ["shape", "thing", "as_test"] (defScope s_is_made_well) := ⟨rfl, rfl, rfl, by decide +kernel, rfl, by decide +kernel, by decide +kernel⟩
def fuel_is_made_well_1 : Q.Env → Nat := sizeAt 4
def b_is_made_well : SD :=
  (dSeq (dAsg (xLift (dC (.int 0))) (gdName 3))
    (dSeq (dAsg (xLift (dWith (fdCons (dSh (dWith (fdCons (dSh (dVar 1)) (fdCons (dSh (dVar 2)) fdNil)) gTupD)) fdNil) gLstD)) (gdName 4))
    (dSeq (dWhile fuel_is_made_well_1 (xbLift (dScalT (dTru (dSh (dVar 4))))) (dSeq (dAsg (xLift (dPop 4)) (gdTup 2 (gdCons (gdName 5) (gdCons (gdName 6) gdNil))))
    (dSeq (dIf (xbLift (dNot (dBl (dSh (dCall fn_has_part_form (daCons (dVar 0) (daCons (dVar 5) daNil))))))) (dRet (xLift (dC (.bl false)))) dNext)
    (dSeq (dAsg (xLift (dOp gIx (dSh (dVar 5)) (dSh (dC (.int 0))))) (gdName 7))
    (dSeq (dIf (xbLift (dAnd (dTru (dSh (dVar 6))) (dBl (dSh (dOp (gIn true) (dSh (dVar 7)) (dSh (dC (.tup (t_TEST_WORDS.map D.str))))))))) (dRet (xLift (dC (.bl false)))) dNext)
    (dSeq (dIf (xbLift (dBl (dSh (dOp gEq (dSh (dVar 7)) (dSh (dC (.str "note"))))))) (dAug 3 gAdd (dSh (dC (.int 1)))) dNext)
    (dSeq (dIf (xbLift (dBl (dSh (dOp gGt (dSh (dVar 3)) (dSh (dC (.int 5))))))) (dRet (xLift (dC (.bl false)))) dNext)
    (dFor (dItemsT (dSh (dCall fn_inner_parts (daCons (dVar 5) daNil)))) (gdName 8) (dDrop (xLift (dAppend 4 (dMv (dWith (fdCons (dSh (dVar 8)) (fdCons (dSh (dBool (dOr (dBl (dSh (dVar 6))) (dBl (dSh (dOp gEq (dSh (dVar 7)) (dSh (dC (.str "not"))))))))) fdNil)) gTupD)))))))))))))
    (dRet (xLift (dC (.bl true)))))))
def fn_is_made_well : FnT := fnD 3 9 [true, true, true] (b_is_made_well)
/-! ### is_saying -/
abbrev s_is_saying : Stmt := topS 21
abbrev N_is_saying : List Str := ["shape", "thing"]
theorem sc_is_saying : FnScope N_is_saying ["shape", "thing"] (defScope s_is_saying) := ⟨rfl, rfl, rfl, by decide +kernel, rfl, by decide +kernel, by decide +kernel⟩
def b_is_saying (Z : Zs) : SD :=
  (dSeq (dDrop (dCallX (fn_check_shape Z) (daCons (dVar 0) daNil)))
    (dRet (xLift (dCall fn_is_made_well (daCons (dVar 0) (daCons (dVar 1) (daCons (dC (.bl false)) daNil)))))))
def fn_is_saying (Z : Zs) : FnT := fnD 2 2 [true, true] (b_is_saying Z)
/-! ### check_saying -/
abbrev s_check_saying : Stmt := topS 22
abbrev N_check_saying : List Str := ["shape", "saying"]
theorem sc_check_saying : FnScope N_check_saying ["shape", "saying"] (defScope s_check_saying) := ⟨rfl, rfl, rfl, by decide +kernel, rfl, by decide +kernel, by decide +kernel⟩
def b_check_saying (Z : Zs) : SD :=
  (dIf (xNot (xBl (dCallX (fn_is_saying Z) (daCons (dVar 0) (daCons (dVar 1) daNil))))) (dRaise Z.NoSaying) dNext)
def fn_check_saying (Z : Zs) : FnT := fnD 2 2 [true, true] (b_check_saying Z)
/-! ### turned_inner -/
abbrev s_turned_inner : Stmt := topS 27
abbrev N_turned_inner : List Str := ["part"]
theorem sc_turned_inner : FnScope N_turned_inner ["part"] (defScope s_turned_inner) := ⟨rfl, rfl, rfl, by decide +kernel, rfl, by decide +kernel, by decide +kernel⟩
def b_turned_inner : SD :=
  (dRet (xLift (dIfE (dBl (dSh (dOp gEq (dSh (dOp gIx (dSh (dVar 0)) (dSh (dC (.int 0))))) (dSh (dC (.str "not")))))) (dWith fdNil gTupD) (dCall fn_inner_parts (daCons (dVar 0) daNil)))))
def fn_turned_inner : FnT := fnD 1 1 [true] (b_turned_inner)
/-! ### parts_by -/
abbrev s_parts_by : Stmt := topS 23
abbrev N_parts_by : List Str := ["saying", "inner_of", "parts", "waiting", "part"]
theorem sc_parts_by : FnScope N_parts_by ["saying", "inner_of"] (defScope s_parts_by) := ⟨rfl, rfl, rfl, by decide +kernel, rfl, by decide +kernel, by decide +kernel⟩
def tab_parts_by (Z : Zs) : Addr → Option FnT := fun a => if a = Z.f_turned_inner then some fn_turned_inner else none
def fuel_parts_by_1 : Q.Env → Nat := sizeAt 3
def b_parts_by (Z : Zs) : SD :=
  (dSeq (dAsg (xLift (dWith fdNil gLstD)) (gdName 2))
    (dSeq (dAsg (xLift (dWith (fdCons (dSh (dVar 0)) fdNil) gLstD)) (gdName 3))
    (dSeq (dWhile fuel_parts_by_1 (xbLift (dScalT (dTru (dSh (dVar 3))))) (dSeq (dAsg (xLift (dPop 3)) (gdName 4))
    (dSeq (dDrop (xLift (dAppend 2 (dMv (dVar 4)))))
    (dDrop (xLift (dExtend 3 (dSh (dUn gRevT (dSh (dCallV 1 (tab_parts_by Z) (daCons (dVar 4) daNil)))))))))))
    (dRet (xLift (dVar 2))))))
def fn_parts_by (Z : Zs) : FnT := fnD 2 5 [true, true] (b_parts_by Z)
/-! ### in_turn -/
abbrev s_in_turn : Stmt := topS 25
abbrev N_in_turn : List Str := ["word", "sayings", "last", "saying", "one"]
theorem sc_in_turn : FnScope N_in_turn ["word", "sayings", "last"] (defScope s_in_turn) := ⟨rfl, rfl, rfl, by decide +kernel, rfl, by decide +kernel, by decide +kernel⟩
def b_in_turn : SD :=
  (dSeq (dAsg (xLift (dVar 2)) (gdName 3))
    (dSeq (dFor (dRev (dSh (dVar 1))) (gdName 4) (dAsg (xLift (dWith (fdCons (dSh (dVar 0)) (fdCons (dSh (dVar 4)) (fdCons (dSh (dVar 3)) fdNil))) gTupD)) (gdName 3)))
    (dRet (xLift (dVar 3)))))
def fn_in_turn : FnT := fnD 3 5 [true, true, true] (b_in_turn)
/-! ### turned_put -/
abbrev s_turned_put : Stmt := topS 26
abbrev N_turned_put : List Str := ["shape", "field", "value", "puts", "before"]
theorem sc_turned_put : FnScope N_turned_put ["shape", "field", "value"] (defScope s_turned_put) := ⟨rfl, rfl, rfl, by decide +kernel, rfl, by decide +kernel, by decide +kernel⟩
def b_turned_put : SD :=
  (dSeq (dAsg (xLift (dComp (dRange1 (fdCons (dSh (dOp gIx (dSh (dVar 0)) (dSh (dVar 1)))) fdNil)) (gdName 4) dYes (dMv (dWith (fdCons (dSh (dC (.str "put"))) (fdCons (dSh (dVar 1)) (fdCons (dSh (dVar 4)) fdNil))) gTupD)) [4])) (gdName 3))
    (dRet (xLift (dWith (fdCons (dSh (dC (.str "then"))) (fdCons (dSh (dWith (fdCons (dSh (dC (.str "is"))) (fdCons (dSh (dVar 1)) (fdCons (dSh (dVar 2)) fdNil))) gTupD)) (fdCons (dSh (dCall fn_in_turn (daCons (dC (.str "either")) (daCons (dSl gSlL (dSh (dVar 3)) pNo (pAt (dSh (dUn gNeg (dSh (dC (.int 1))))))) (daCons (dOp gIx (dSh (dVar 3)) (dSh (dUn gNeg (dSh (dC (.int 1)))))) daNil))))) fdNil))) gTupD))))
def fn_turned_put : FnT := fnD 3 5 [true, true, true] (b_turned_put)
/-! ### turned_part -/
abbrev s_turned_part : Stmt := topS 28
abbrev N_turned_part : List Str := ["shape", "part", "made", "word", "one", "other"]
theorem sc_turned_part : FnScope N_turned_part ["shape", "part", "made"] (defScope s_turned_part) := ⟨rfl, rfl, rfl, by decide +kernel, rfl, by decide +kernel, by decide +kernel⟩
def b_turned_part : SD :=
  (dSeq (dAsg (xLift (dOp gIx (dSh (dVar 1)) (dSh (dC (.int 0))))) (gdName 3))
    (dSeq (dIf (xbLift (dBl (dSh (dOp gEq (dSh (dVar 3)) (dSh (dC (.str "put"))))))) (dRet (xLift (dCall fn_turned_put (daCons (dVar 0) (daCons (dOp gIx (dSh (dVar 1)) (dSh (dC (.int 1)))) (daCons (dOp gIx (dSh (dVar 1)) (dSh (dC (.int 2)))) daNil)))))) dNext)
    (dSeq (dIf (xbLift (dBl (dSh (dOp gEq (dSh (dVar 3)) (dSh (dC (.str "again"))))))) (dRet (xLift (dWith (fdCons (dSh (dVar 3)) (fdCons (dSh (dPop 2)) fdNil)) gTupD))) dNext)
    (dSeq (dIf (xbLift (dBl (dSh (dOp (gIn true) (dSh (dVar 3)) (dSh (dWith (fdCons (dSh (dC (.str "then"))) (fdCons (dSh (dC (.str "either"))) fdNil)) gTupD)))))) (dRet (xLift (dVar 1))) dNext)
    (dSeq (dAsg (xLift (dPop 2)) (gdName 4))
    (dSeq (dAsg (xLift (dPop 2)) (gdName 5))
    (dRet (xLift (dIfE (dBl (dSh (dOp gEq (dSh (dVar 3)) (dSh (dC (.str "then")))))) (dWith (fdCons (dSh (dVar 3)) (fdCons (dSh (dVar 5)) (fdCons (dSh (dVar 4)) fdNil))) gTupD) (dWith (fdCons (dSh (dVar 3)) (fdCons (dSh (dVar 4)) (fdCons (dSh (dVar 5)) fdNil))) gTupD))))))))))
def fn_turned_part : FnT := fnD 3 6 [true, true, true] (b_turned_part)
/-! ### turned_saying -/
abbrev s_turned_saying : Stmt := topS 29
abbrev N_turned_saying : List Str := ["shape", "saying", "made", "part"]
theorem sc_turned_saying : FnScope N_turned_saying ["shape", "saying"] (defScope s_turned_saying) := ⟨rfl, rfl, rfl, by decide +kernel, rfl, by decide +kernel, by decide +kernel⟩
def b_turned_saying (Z : Zs) : SD :=
  (dSeq (dDrop (dCallX (fn_check_saying Z) (daCons (dVar 0) (daCons (dVar 1) daNil))))
    (dSeq (dAsg (xLift (dWith fdNil gLstD)) (gdName 2))
    (dSeq (dFor (dRev (dSh (dCall (fn_parts_by Z) (daCons (dVar 1) (daCons (dC (.fnc Z.f_turned_inner)) daNil))))) (gdName 3) (dDrop (xLift (dAppend 2 (dMv (dCall fn_turned_part (daCons (dVar 0) (daCons (dVar 3) (daCons (dVar 2) daNil)))))))))
    (dRet (xLift (dPop 2))))))
def fn_turned_saying (Z : Zs) : FnT := fnD 2 4 [true, true] (b_turned_saying Z)
/-! ### _law_mixed -/
abbrev s__law_mixed : Stmt := topS 31
abbrev N__law_mixed : List Str := ["_law_cell_here", "_law_k", "_law_number"]
theorem sc__law_mixed : FnScope N__law_mixed ["_law_cell_here", "_law_k"] (defScope s__law_mixed) := ⟨rfl, rfl, rfl, by decide +kernel, rfl, by decide +kernel, by decide +kernel⟩
def b__law_mixed : SD :=
  (dSeq (dAsg (xLift (dOp gMod (dSh (dOp gAdd (dSh (dOp gAdd (dSh (dOp gMul (dSh (dOp gMod (dSh (dVar 0)) (dSh (dC (.int 2147483647))))) (dSh (dC (.int 48271))))) (dSh (dOp gMul (dSh (dVar 1)) (dSh (dC (.int 69621))))))) (dSh (dC (.int 1048583))))) (dSh (dC (.int 2147483629))))) (gdName 2))
    (dSeq (dAsg (xLift (dOp gMod (dSh (dOp gMul (dSh (dVar 2)) (dSh (dVar 2)))) (dSh (dC (.int 2147483587))))) (gdName 2))
    (dRet (xLift (dOp gMod (dSh (dOp gMul (dSh (dVar 2)) (dSh (dOp gAdd (dSh (dVar 2)) (dSh (dC (.int 2))))))) (dSh (dC (.int 2147483579))))))))
def fn__law_mixed : FnT := fnD 2 3 [true, true] (b__law_mixed)
/-! ### _law_cell -/
abbrev s__law_cell : Stmt := topS 32
abbrev N__law_cell : List Str := ["_law_script", "_law_k", "_law_cell_here", "_law_found", "_law_j"]
theorem sc__law_cell : FnScope N__law_cell ["_law_script", "_law_k"] (defScope s__law_cell) := ⟨rfl, rfl, rfl, by decide +kernel, rfl, by decide +kernel, by decide +kernel⟩
def b__law_cell : SD :=
  (dSeq (dAsg (xLift (dC (.int 0))) (gdName 2))
    (dSeq (dIf (xbLift (dBl (dSh (dOp gLt (dSh (dVar 1)) (dSh (dWith (fdCons (dSh (dVar 0)) fdNil) gLen)))))) (dAsg (xLift (dOp gIx (dSh (dVar 0)) (dSh (dVar 1)))) (gdName 2)) dNext)
    (dSeq (dIf (xbLift (dBl (dSh (dOp gGe (dSh (dVar 2)) (dSh (dOp gPow (dSh (dC (.int 10))) (dSh (dC (.int 18))))))))) (dRet (xLift (dOp gMod (dSh (dOp gSubI (dSh (dVar 2)) (dSh (dOp gPow (dSh (dC (.int 10))) (dSh (dC (.int 18))))))) (dSh (dOp gMul (dSh (dOp gMul (dSh (dOp gMul (dSh (dOp gPow (dSh (dC (.int 10))) (dSh (dC (.int 60))))) (dSh (dOp gPow (dSh (dC (.int 10))) (dSh (dC (.int 60))))))) (dSh (dOp gPow (dSh (dC (.int 10))) (dSh (dC (.int 60))))))) (dSh (dOp gPow (dSh (dC (.int 10))) (dSh (dC (.int 60)))))))))) dNext)
    (dSeq (dAsg (xLift (dC (.int 0))) (gdName 3))
    (dSeq (dFor (dRange1 (fdCons (dSh (dC (.int 24))) fdNil)) (gdName 4) (dAsg (xLift (dOp gAdd (dSh (dOp gMul (dSh (dVar 3)) (dSh (dC (.int 2147483579))))) (dSh (dCall fn__law_mixed (daCons (dVar 2) (daCons (dOp gAdd (dSh (dOp gAdd (dSh (dOp gMul (dSh (dC (.int 7))) (dSh (dVar 1)))) (dSh (dOp gMul (dSh (dC (.int 100))) (dSh (dVar 4)))))) (dSh (dOp gMul (dSh (dVar 4)) (dSh (dVar 4))))) daNil)))))) (gdName 3)))
    (dRet (xLift (dVar 3))))))))
def fn__law_cell : FnT := fnD 2 5 [true, true] (b__law_cell)
/-! ### _law_take -/
abbrev s__law_take : Stmt := topS 33
abbrev N__law_take : List Str := ["_law_pile", "_law_size", "_law_digit"]
theorem sc__law_take : FnScope N__law_take ["_law_pile", "_law_size"] (defScope s__law_take) := ⟨rfl, rfl, rfl, by decide +kernel, rfl, by decide +kernel, by decide +kernel⟩
def b__law_take : SD :=
  (dSeq (dAsg (xLift (dOp gMod (dSh (dIxO 0 (dSh (dC (.int 0))))) (dSh (dVar 1)))) (gdName 2))
    (dSeq (dAsg (xLift (dOp gDiv (dSh (dIxO 0 (dSh (dC (.int 0))))) (dSh (dVar 1)))) (gdIx 0 (dSh (dC (.int 0)))))
    (dRet (xLift (dVar 2)))))
def fn__law_take : FnT := fnD 2 3 [true, true] (b__law_take)
/-! ### _law_shape -/
abbrev s__law_shape : Stmt := topS 34
abbrev N__law_shape : List Str := ["_law_pile", "_law_some"]
theorem sc__law_shape : FnScope N__law_shape ["_law_pile"] (defScope s__law_shape) := ⟨rfl, rfl, rfl, by decide +kernel, rfl, by decide +kernel, by decide +kernel⟩
def b__law_shape : SD :=
  (dSeq (dAsg (xLift (dWith (fdCons (dSh (dWith (fdCons (dSh (dC (.int 2))) (fdCons (dSh (dC (.int 2))) fdNil)) gTupD)) (fdCons (dSh (dWith (fdCons (dSh (dC (.int 3))) fdNil) gTupD)) (fdCons (dSh (dWith (fdCons (dSh (dC (.int 2))) (fdCons (dSh (dC (.int 3))) fdNil)) gTupD)) (fdCons (dSh (dWith (fdCons (dSh (dC (.int 4))) (fdCons (dSh (dC (.int 2))) fdNil)) gTupD)) (fdCons (dSh (dWith (fdCons (dSh (dC (.int 2))) (fdCons (dSh (dC (.int 2))) (fdCons (dSh (dC (.int 2))) fdNil))) gTupD)) (fdCons (dSh (dWith (fdCons (dSh (dC (.int 3))) (fdCons (dSh (dC (.int 3))) fdNil)) gTupD)) (fdCons (dSh (dWith (fdCons (dSh (dC (.int 1))) (fdCons (dSh (dC (.int 2))) fdNil)) gTupD)) (fdCons (dSh (dWith (fdCons (dSh (dC (.int 4))) (fdCons (dSh (dC (.int 4))) fdNil)) gTupD)) (fdCons (dSh (dWith (fdCons (dSh (dC (.int 3))) (fdCons (dSh (dC (.int 3))) (fdCons (dSh (dC (.int 3))) fdNil))) gTupD)) (fdCons (dSh (dWith (fdCons (dSh (dC (.int 2))) (fdCons (dSh (dC (.int 1))) (fdCons (dSh (dC (.int 3))) fdNil))) gTupD)) (fdCons (dSh (dWith (fdCons (dSh (dC (.int 1))) fdNil) gTupD)) fdNil))))))))))) gLstD)) (gdName 1))
    (dSeq (dAsg (xLift (dOp gCatL (dSh (dVar 1)) (dSh (dWith (fdCons (dSh (dWith (fdCons (dSh (dC (.int 2))) fdNil) gTupD)) (fdCons (dSh (dWith (fdCons (dSh (dC (.int 4))) (fdCons (dSh (dC (.int 3))) (fdCons (dSh (dC (.int 2))) fdNil))) gTupD)) fdNil)) gLstD)))) (gdName 1))
    (dRet (xLift (dOp gIx (dSh (dVar 1)) (dSh (dCall fn__law_take (daCons (dVar 0) (daCons (dC (.int 13)) daNil)))))))))
def fn__law_shape : FnT := fnD 1 2 [true] (b__law_shape)
/-! ### _law_named -/
abbrev s__law_named : Stmt := topS 35
abbrev N__law_named : List Str := ["_law_pile", "_law_word", "_law_shape_here", "_law_field"]
theorem sc__law_named : FnScope N__law_named ["_law_pile", "_law_word", "_law_shape_here"] (defScope s__law_named) := ⟨rfl, rfl, rfl, by decide +kernel, rfl, by decide +kernel, by decide +kernel⟩
def b__law_named : SD :=
  (dSeq (dAsg (xLift (dCall fn__law_take (daCons (dVar 0) (daCons (dWith (fdCons (dSh (dVar 2)) fdNil) gLen) daNil)))) (gdName 3))
    (dRet (xLift (dWith (fdCons (dSh (dVar 1)) (fdCons (dSh (dVar 3)) (fdCons (dSh (dCall fn__law_take (daCons (dVar 0) (daCons (dOp gIx (dSh (dVar 2)) (dSh (dVar 3))) daNil)))) fdNil))) gTupD))))
def fn__law_named : FnT := fnD 3 4 [true, true, true] (b__law_named)
/-! ### _law_test -/
abbrev s__law_test : Stmt := topS 36
abbrev N__law_test : List Str := ["_law_pile", "_law_shape_here", "_law_deep", "_law_way", "_law_one"]
theorem sc__law_test : FnScope N__law_test ["_law_pile", "_law_shape_here", "_law_deep"] (defScope s__law_test) := ⟨rfl, rfl, rfl, by decide +kernel, rfl, by decide +kernel, by decide +kernel⟩
def b__law_test (self : FnT) (kk : Nat) : SD :=
  (dSeq (dAsg (xLift (dCall fn__law_take (daCons (dVar 0) (daCons (dC (.int 9)) daNil)))) (gdName 3))
    (dSeq (dIf (xbLift (dOr (dBl (dSh (dOp gEq (dSh (dVar 2)) (dSh (dC (.int 0)))))) (dBl (dSh (dOp gLt (dSh (dVar 3)) (dSh (dC (.int 4)))))))) (dSeq (dIf (xbLift (dBl (dSh (dOp gEq (dSh (dVar 3)) (dSh (dC (.int 3))))))) (dRet (xLift (dOp gIx (dSh (dWith (fdCons (dSh (dWith (fdCons (dSh (dC (.str "yes"))) fdNil) gTupD)) (fdCons (dSh (dWith (fdCons (dSh (dC (.str "no"))) fdNil) gTupD)) fdNil)) gLstD)) (dSh (dCall fn__law_take (daCons (dVar 0) (daCons (dC (.int 2)) daNil))))))) dNext)
    (dRet (xLift (dCall fn__law_named (daCons (dVar 0) (daCons (dC (.str "is")) (daCons (dVar 1) daNil))))))) dNext)
    (dSeq (dIf (xbLift (dBl (dSh (dOp gLt (dSh (dVar 3)) (dSh (dC (.int 6))))))) (dRet (xLift (dWith (fdCons (dSh (dC (.str "not"))) (fdCons (dSh (dCall self (daCons (dVar 0) (daCons (dVar 1) (daCons (dOp gSubI (dSh (dVar 2)) (dSh (dC (.int 1)))) daNil))))) fdNil)) gTupD))) dNext)
    (dSeq (dAsg (xLift (dCall self (daCons (dVar 0) (daCons (dVar 1) (daCons (dOp gSubI (dSh (dVar 2)) (dSh (dC (.int 1)))) daNil))))) (gdName 4))
    (dRet (xLift (dWith (fdCons (dSh (dOp gIx (dSh (dWith (fdCons (dSh (dC (.str "then"))) (fdCons (dSh (dC (.str "either"))) fdNil)) gLstD)) (dSh (dOp gMod (dSh (dVar 3)) (dSh (dC (.int 2))))))) (fdCons (dSh (dVar 4)) (fdCons (dSh (dCall self (daCons (dVar 0) (daCons (dVar 1) (daCons (dOp gSubI (dSh (dVar 2)) (dSh (dC (.int 1)))) daNil))))) fdNil))) gTupD)))))))
def fn__law_test : Nat → FnT
  | 0 => fun _ => none
  | k + 1 => fnD 3 5 [true, true, true] (b__law_test (fn__law_test k) k)
theorem fl__law_test : ∀ (k : Nat) (qs : List T) (z : Res × List T), fn__law_test k qs = some z → qs.length = 3
  | 0, _, _, e => nomatch e
  | k + 1, qs, z, e => fnD_len qs z e
/-! ### _law_saying -/
abbrev s__law_saying : Stmt := topS 37
abbrev N__law_saying : List Str := ["_law_pile", "_law_shape_here", "_law_deep", "_law_notes", "_law_way", "_law_one"]
theorem sc__law_saying : FnScope N__law_saying ["_law_pile", "_law_shape_here", "_law_deep", "_law_notes"] (defScope s__law_saying) := ⟨rfl, rfl, rfl, by decide +kernel, rfl, by decide +kernel, by decide +kernel⟩
def b__law_saying (self : FnT) (kk : Nat) : SD :=
  (dSeq (dAsg (xLift (dCall fn__law_take (daCons (dVar 0) (daCons (dC (.int 16)) daNil)))) (gdName 4))
    (dSeq (dIf (xbLift (dScalT (dAnd (dBl (dSh (dOp gEq (dSh (dVar 4)) (dSh (dC (.int 0)))))) (dBl (dSh (dOp gGt (dSh (dLift (dScal (dSh (dWith (fdCons (dSh (dVar 3)) fdNil) gLen))))) (dSh (dC (.int 0))))))))) (dSeq (dDrop (xLift (dPop 3)))
    (dRet (xLift (dWith (fdCons (dSh (dC (.str "note"))) fdNil) gTupD)))) dNext)
    (dSeq (dIf (xbLift (dOr (dBl (dSh (dOp gEq (dSh (dVar 2)) (dSh (dC (.int 0)))))) (dBl (dSh (dOp gLt (dSh (dVar 4)) (dSh (dC (.int 5)))))))) (dSeq (dIf (xbLift (dBl (dSh (dOp gEq (dSh (dVar 4)) (dSh (dC (.int 1))))))) (dRet (xLift (dOp gIx (dSh (dWith (fdCons (dSh (dWith (fdCons (dSh (dC (.str "yes"))) fdNil) gTupD)) (fdCons (dSh (dWith (fdCons (dSh (dC (.str "no"))) fdNil) gTupD)) (fdCons (dSh (dWith (fdCons (dSh (dC (.str "yes"))) fdNil) gTupD)) fdNil))) gLstD)) (dSh (dCall fn__law_take (daCons (dVar 0) (daCons (dC (.int 3)) daNil))))))) dNext)
    (dRet (xLift (dCall fn__law_named (daCons (dVar 0) (daCons (dOp gIx (dSh (dWith (fdCons (dSh (dC (.str "put"))) (fdCons (dSh (dC (.str "is"))) (fdCons (dSh (dC (.str "put"))) fdNil))) gLstD)) (dSh (dOp gMod (dSh (dVar 4)) (dSh (dC (.int 3)))))) (daCons (dVar 1) daNil))))))) dNext)
    (dSeq (dIf (xbLift (dBl (dSh (dOp gLt (dSh (dVar 4)) (dSh (dC (.int 7))))))) (dRet (xLift (dWith (fdCons (dSh (dC (.str "not"))) (fdCons (dSh (dCall (fn__law_test kk) (daCons (dVar 0) (daCons (dVar 1) (daCons (dWith (fdCons (dSh (dOp gSubI (dSh (dVar 2)) (dSh (dC (.int 1))))) (fdCons (dSh (dC (.int 2))) fdNil)) gMin2) daNil))))) fdNil)) gTupD))) dNext)
    (dSeq (dIf (xbLift (dBl (dSh (dOp gLt (dSh (dVar 4)) (dSh (dC (.int 9))))))) (dRet (xLift (dWith (fdCons (dSh (dC (.str "again"))) (fdCons (dSh (dCall self (daCons (dVar 0) (daCons (dVar 1) (daCons (dOp gSubI (dSh (dVar 2)) (dSh (dC (.int 1)))) (daCons (dVar 3) daNil)))))) fdNil)) gTupD))) dNext)
    (dSeq (dAsg (xLift (dCall self (daCons (dVar 0) (daCons (dVar 1) (daCons (dOp gSubI (dSh (dVar 2)) (dSh (dC (.int 1)))) (daCons (dVar 3) daNil)))))) (gdName 5))
    (dRet (xLift (dWith (fdCons (dSh (dOp gIx (dSh (dWith (fdCons (dSh (dC (.str "then"))) (fdCons (dSh (dC (.str "either"))) fdNil)) gLstD)) (dSh (dOp gMod (dSh (dVar 4)) (dSh (dC (.int 2))))))) (fdCons (dSh (dVar 5)) (fdCons (dSh (dCall self (daCons (dVar 0) (daCons (dVar 1) (daCons (dOp gSubI (dSh (dVar 2)) (dSh (dC (.int 1)))) (daCons (dVar 3) daNil)))))) fdNil))) gTupD)))))))))
def fn__law_saying : Nat → FnT
  | 0 => fun _ => none
  | k + 1 => fnD 4 6 [true, true, true, true] (b__law_saying (fn__law_saying k) k)
theorem fl__law_saying : ∀ (k : Nat) (qs : List T) (z : Res × List T), fn__law_saying k qs = some z → qs.length = 4
  | 0, _, _, e => nomatch e
  | k + 1, qs, z, e => fnD_len qs z e
/-! ### _law_drawn -/
abbrev s__law_drawn : Stmt := topS 38
abbrev N__law_drawn : List Str := ["_law_script", "_law_k", "_law_deep", "_law_pile", "_law_shape_here", "_law_notes"]
theorem sc__law_drawn : FnScope N__law_drawn ["_law_script", "_law_k", "_law_deep"] (defScope s__law_drawn) := ⟨rfl, rfl, rfl, by decide +kernel, rfl, by decide +kernel, by decide +kernel⟩
def b__law_drawn : SD :=
  (dSeq (dAsg (xLift (dWith (fdCons (dSh (dCall fn__law_cell (daCons (dVar 0) (daCons (dVar 1) daNil)))) fdNil) gLstD)) (gdName 3))
    (dSeq (dAsg (xLift (dCall fn__law_shape (daCons (dVar 3) daNil))) (gdName 4))
    (dSeq (dAsg (xLift (dOp gMulL (dSh (dWith (fdCons (dSh (dC (.int 1))) fdNil) gLstD)) (dSh (dOp gIx (dSh (dWith (fdCons (dSh (dC (.int 0))) (fdCons (dSh (dC (.int 1))) (fdCons (dSh (dC (.int 2))) (fdCons (dSh (dC (.int 5))) fdNil)))) gLstD)) (dSh (dCall fn__law_take (daCons (dVar 3) (daCons (dC (.int 4)) daNil)))))))) (gdName 5))
    (dRet (xLift (dWith (fdCons (dSh (dVar 4)) (fdCons (dSh (dCall (fn__law_saying FU) (daCons (dVar 3) (daCons (dVar 4) (daCons (dVar 2) (daCons (dVar 5) daNil)))))) fdNil)) gTupD))))))
def fn__law_drawn : FnT := fnD 3 6 [true, true, true] (b__law_drawn)
/-! ### _law_due -/
abbrev s__law_due : Stmt := topS 39
abbrev N__law_due : List Str := ["_law_shape_here", "_law_saying_here", "_law_word", "_law_found", "_law_value"]
theorem sc__law_due : FnScope N__law_due ["_law_shape_here", "_law_saying_here"] (defScope s__law_due) := ⟨rfl, rfl, rfl, by decide +kernel, rfl, by decide +kernel, by decide +kernel⟩
def b__law_due (self : FnT) (kk : Nat) : SD :=
  (dSeq (dAsg (xLift (dOp gIx (dSh (dVar 1)) (dSh (dC (.int 0))))) (gdName 2))
    (dSeq (dIf (xbLift (dBl (dSh (dOp gEq (dSh (dVar 2)) (dSh (dC (.str "put"))))))) (dSeq (dAsg (xLift (dWith (fdCons (dSh (dC (.str "put"))) (fdCons (dSh (dOp gIx (dSh (dVar 1)) (dSh (dC (.int 1))))) (fdCons (dSh (dOp gSubI (dSh (dOp gIx (dSh (dVar 0)) (dSh (dOp gIx (dSh (dVar 1)) (dSh (dC (.int 1))))))) (dSh (dC (.int 1))))) fdNil))) gTupD)) (gdName 3))
    (dSeq (dFor (dRange3 (fdCons (dSh (dOp gSubI (dSh (dOp gIx (dSh (dVar 0)) (dSh (dOp gIx (dSh (dVar 1)) (dSh (dC (.int 1))))))) (dSh (dC (.int 2))))) (fdCons (dSh (dUn gNeg (dSh (dC (.int 1))))) (fdCons (dSh (dUn gNeg (dSh (dC (.int 1))))) fdNil)))) (gdName 4) (dAsg (xLift (dWith (fdCons (dSh (dC (.str "either"))) (fdCons (dSh (dWith (fdCons (dSh (dC (.str "put"))) (fdCons (dSh (dOp gIx (dSh (dVar 1)) (dSh (dC (.int 1))))) (fdCons (dSh (dVar 4)) fdNil))) gTupD)) (fdCons (dSh (dVar 3)) fdNil))) gTupD)) (gdName 3)))
    (dRet (xLift (dWith (fdCons (dSh (dC (.str "then"))) (fdCons (dSh (dWith (fdCons (dSh (dC (.str "is"))) (fdCons (dSh (dOp gIx (dSh (dVar 1)) (dSh (dC (.int 1))))) (fdCons (dSh (dOp gIx (dSh (dVar 1)) (dSh (dC (.int 2))))) fdNil))) gTupD)) (fdCons (dSh (dVar 3)) fdNil))) gTupD))))) dNext)
    (dSeq (dIf (xbLift (dBl (dSh (dOp gEq (dSh (dVar 2)) (dSh (dC (.str "then"))))))) (dRet (xLift (dWith (fdCons (dSh (dC (.str "then"))) (fdCons (dSh (dCall self (daCons (dVar 0) (daCons (dOp gIx (dSh (dVar 1)) (dSh (dC (.int 2)))) daNil)))) (fdCons (dSh (dCall self (daCons (dVar 0) (daCons (dOp gIx (dSh (dVar 1)) (dSh (dC (.int 1)))) daNil)))) fdNil))) gTupD))) dNext)
    (dSeq (dIf (xbLift (dBl (dSh (dOp gEq (dSh (dVar 2)) (dSh (dC (.str "either"))))))) (dRet (xLift (dWith (fdCons (dSh (dC (.str "either"))) (fdCons (dSh (dCall self (daCons (dVar 0) (daCons (dOp gIx (dSh (dVar 1)) (dSh (dC (.int 1)))) daNil)))) (fdCons (dSh (dCall self (daCons (dVar 0) (daCons (dOp gIx (dSh (dVar 1)) (dSh (dC (.int 2)))) daNil)))) fdNil))) gTupD))) dNext)
    (dSeq (dIf (xbLift (dBl (dSh (dOp gEq (dSh (dVar 2)) (dSh (dC (.str "again"))))))) (dRet (xLift (dWith (fdCons (dSh (dC (.str "again"))) (fdCons (dSh (dCall self (daCons (dVar 0) (daCons (dOp gIx (dSh (dVar 1)) (dSh (dC (.int 1)))) daNil)))) fdNil)) gTupD))) dNext)
    (dRet (xLift (dVar 1))))))))
def fn__law_due : Nat → FnT
  | 0 => fun _ => none
  | k + 1 => fnD 2 5 [true, true] (b__law_due (fn__law_due k) k)
theorem fl__law_due : ∀ (k : Nat) (qs : List T) (z : Res × List T), fn__law_due k qs = some z → qs.length = 2
  | 0, _, _, e => nomatch e
  | k + 1, qs, z, e => fnD_len qs z e
/-! ### law -/
abbrev s_law : Stmt := topS 40
abbrev N_law : List Str := ["_law_script", "_law_some", "_law_k", "_law_shape_here", "_law_saying_here", "_law_text", "_law_found"]
theorem sc_law : FnScope N_law ["_law_script"] (defScope s_law) := ⟨rfl, rfl, rfl, by decide +kernel, rfl, by decide +kernel, by decide +kernel⟩
def b_law (Z : Zs) : SD :=
  (dSeq (dAsg (xLift (dWith (fdCons (dSh (dWith (fdCons (dSh (dWith (fdCons (dSh (dC (.int 2))) (fdCons (dSh (dC (.int 2))) fdNil)) gTupD)) (fdCons (dSh (dWith (fdCons (dSh (dC (.str "note"))) fdNil) gTupD)) fdNil)) gTupD)) (fdCons (dSh (dWith (fdCons (dSh (dWith (fdCons (dSh (dC (.int 3))) fdNil) gTupD)) (fdCons (dSh (dWith (fdCons (dSh (dC (.str "put"))) (fdCons (dSh (dC (.int 0))) (fdCons (dSh (dC (.int 1))) fdNil))) gTupD)) fdNil)) gTupD)) (fdCons (dSh (dWith (fdCons (dSh (dWith (fdCons (dSh (dC (.int 1))) fdNil) gTupD)) (fdCons (dSh (dWith (fdCons (dSh (dC (.str "put"))) (fdCons (dSh (dC (.int 0))) (fdCons (dSh (dC (.int 0))) fdNil))) gTupD)) fdNil)) gTupD)) fdNil))) gLstD)) (gdName 1))
    (dSeq (dFor (dRange1 (fdCons (dSh (dC (.int 4))) fdNil)) (gdName 2) (dDrop (xLift (dAppend 1 (dMv (dCall fn__law_drawn (daCons (dVar 0) (daCons (dVar 2) (daCons (dC (.int 4)) daNil)))))))))
    (dSeq (dFor (dItemsL (dSh (dOp gCatL (dSh (dVar 1)) (dSh (dSl gSlL (dSh (dVar 1)) pNo (pAt (dSh (dC (.int 1))))))))) (gdTup 2 (gdCons (gdName 3) (gdCons (gdName 4) gdNil))) (dSeq (dAsg (xLift (dWith (fdCons (dSh (dVar 4)) fdNil) gRep)) (gdName 5))
    (dSeq (dAsg (dCallX (fn_turned_saying Z) (daCons (dVar 3) (daCons (dVar 4) daNil))) (gdName 6))
    (dSeq (dIf (xbLift (dOr (dBl (dSh (dOp gNe (dSh (dWith (fdCons (dSh (dVar 6)) fdNil) gRep)) (dSh (dWith (fdCons (dSh (dCall (fn__law_due FU) (daCons (dVar 3) (daCons (dVar 4) daNil)))) fdNil) gRep))))) (dBl (dSh (dOp gNe (dSh (dWith (fdCons (dSh (dVar 4)) fdNil) gRep)) (dSh (dVar 5))))))) (dRet (xLift (dC (.bl false)))) dNext)
    (dIf (xbLift (dBl (dSh (dOp gNe (dSh (dWith (fdCons (dSh (dCall (fn_turned_saying Z) (daCons (dVar 3) (daCons (dVar 6) daNil)))) fdNil) gRep)) (dSh (dWith (fdCons (dSh (dCall (fn__law_due FU) (daCons (dVar 3) (daCons (dVar 6) daNil)))) fdNil) gRep)))))) (dRet (xLift (dC (.bl false)))) dNext)))))
    (dRet (xLift (dC (.bl true)))))))
def fn_law (Z : Zs) : FnT := fnD 1 7 [true] (b_law Z)

end K5

set_option Elab.async false
set_option linter.all false
set_option maxRecDepth 100000
set_option maxHeartbeats 4000000
namespace K5
open PySem PySem.Spec PyProof.Rows L2 Q
theorem ok_is_number {P : Program} {w : World} {K : PySem.W.Frag} {mg : Str → Option Value} {base : Heap} {Z : Zs} {f : Addr} {fd : FuncData} (T : Txt K mg Z w) (F : Fun K "is_number" "is_number" s_is_number f fd) : FnG P w K mg base 1 f fd ["thing"] (spD K 1 fn_is_number) := by
  have h := fn_ok (P := P) (w := w) (mg := mg) (base := base) (k := 0) (g := b_is_number) (fx := [true]) F sc_is_number rfl (fun cdv A outer s H E gu hr => by
    have tk := takes_of (X := cxOf (L2.CX P w) P w K mg base N_is_number "is_number" (defScope s_is_number) f cdv A outer s H E) rfl rfl rfl rfl
    exact ⟨_, (pss_one (ps_ret (pe_and (pe_callB call_isi (by rfl) T.b_isinstance (by decide +kernel) (pa_cons (pv 0) (pa_cons (pe_bltn (v := .ty "int") (by rfl) T.b_int (by decide +kernel) rfl) pa_nil))) (pe_one (pe_not (pe_callB call_isi (by rfl) T.b_isinstance (by decide +kernel) (pa_cons (pv 0) (pa_cons (pe_bltn (v := .ty "bool") (by rfl) T.b_bool (by decide +kernel) rfl) pa_nil)))))))), (ds_ret (dx_of (de_andV (df_of (de_isi (c := .int) (df_of de_var))) (df_of (de_notV (df_of (de_isi (c := .bool) (df_of de_var))))))))⟩)
  exact h

end K5

set_option Elab.async false
set_option linter.all false
set_option maxRecDepth 100000
set_option maxHeartbeats 4000000
namespace K5
open PySem PySem.Spec PyProof.Rows L2 Q
theorem ok_is_below {P : Program} {w : World} {K : PySem.W.Frag} {mg : Str → Option Value} {base : Heap} {Z : Zs} {f : Addr} {fd : FuncData} (T : Txt K mg Z w) (F : Fun K "is_below" "is_below" s_is_below f fd) (E_is_number : FnE P w K mg base 1 "is_number" ["thing"] fn_is_number) : FnG P w K mg base 2 f fd ["thing", "most"] (spD K 2 fn_is_below) := by
  have h := fn_ok (P := P) (w := w) (mg := mg) (base := base) (k := 1) (g := b_is_below) (fx := [true, true]) F sc_is_below rfl (fun cdv A outer s H E gu hr => by
    have tk := takes_of (X := cxOf (L2.CX P w) P w K mg base N_is_below "is_below" (defScope s_is_below) f cdv A outer s H E) rfl rfl rfl rfl
    exact ⟨_, (pss_one (ps_ret (pe_and (pe_fnE E_is_number (Room.mono hr (by omega)) gu (by rfl) (fun σ => passNo σ) (pa_cons (pv 0) pa_nil)) (pe_one (pe_chain op_le op_lt pe_int (pv 0) (pv 1)))))), (ds_ret (dx_of (de_andV (df_of (de_fn E_is_number.len (da_cons de_var da_nil))) (df_of (de_chain (df_of (de_c fun _ => .int 0)) (df_of de_var) (df_of de_var) dc_le dc_lt)))))⟩)
  exact h

end K5

set_option Elab.async false
set_option linter.all false
set_option maxRecDepth 100000
set_option maxHeartbeats 4000000
namespace K5
open PySem PySem.Spec PyProof.Rows L2 Q
theorem ok_is_shape {P : Program} {w : World} {K : PySem.W.Frag} {mg : Str → Option Value} {base : Heap} {Z : Zs} {f : Addr} {fd : FuncData} (T : Txt K mg Z w) (F : Fun K "is_shape" "is_shape" s_is_shape f fd) (E_is_number : FnE P w K mg base 1 "is_number" ["thing"] fn_is_number) : FnG P w K mg base 2 f fd ["thing"] (spD K 1 fn_is_shape) := by
  have h := fn_ok (P := P) (w := w) (mg := mg) (base := base) (k := 1) (g := b_is_shape) (fx := [true]) F sc_is_shape rfl (fun cdv A outer s H E gu hr => by
    have tk := takes_of (X := cxOf (L2.CX P w) P w K mg base N_is_shape "is_shape" (defScope s_is_shape) f cdv A outer s H E) rfl rfl rfl rfl
    exact ⟨_, (pss_cons (ps_if (PW.pt (pw_or (pt_not (pt_val (pe_callB call_isi (by rfl) T.b_isinstance (by decide +kernel) (pa_cons (pv 0) (pa_cons (pe_bltn (v := .ty "tuple") (by rfl) T.b_tuple (by decide +kernel) rfl) pa_nil))))) (pw_or1 (pt_not (pt_chain op_le op_le pe_int (pe_callB call_len (by rfl) T.b_len (by decide +kernel) (pa_cons (pv 0) pa_nil)) (pe_glob (v := .int 3) (by rfl) T.k_MOST_FIELDS ⟨_, rfl⟩)))))) (pss_one (ps_ret pe_bl)) pss_nil)
    (pss_cons (ps_set (i := 1) sc_is_shape.nd rfl (Or.inl rfl) pe_int)
    (pss_cons (ps_for (passes_of rfl) rfl (pi_tup (pv 0)) (pg_name (i := 2) sc_is_shape.nd rfl (Or.inl rfl)) (pss_cons (ps_if (PW.pt (pw_or (pt_not (pt_val (pe_fnE E_is_number (Room.mono hr (by omega)) gu (by rfl) (fun σ => passNo σ) (pa_cons (pv 2) pa_nil)))) (pw_or1 (pt_not (pt_chain op_le op_le pe_int (pv 2) (pe_glob (v := .int 4) (by rfl) T.k_MOST_VALUES ⟨_, rfl⟩)))))) (pss_one (ps_ret pe_bl)) pss_nil)
    (pss_one (ps_aug (i := 1) sc_is_shape.nd rfl (Or.inl rfl) (pv 2) iop_mul))))
    (pss_one (ps_ret (pe_cmpR op_le (pv 1) (pe_glob (v := .int 27) (by rfl) T.k_MOST_LETTERS ⟨_, rfl⟩) (nomark _))))))), (ds_seq (ds_if (dtx_of (dt_or (dt_not (dt_bl (df_of (de_isi (c := .tuple) (df_of de_var))))) (dt_not (dt_test (df_of (de_chain (df_of (de_c fun _ => .int 1)) (df_of (de_with (fd_cons (df_of de_var) fd_nil) dc_len)) (df_of (de_c fun _ => .int 3)) dc_le dc_le)))))) (ds_ret (dx_of (de_c fun _ => .bl false))) ds_next)
    (ds_seq (ds_asg (dx_of (de_c fun _ => .int 1)) (dg_name (by rfl)))
    (ds_seq (ds_for (di_tup (df_of de_var)) (dg_name (by rfl)) (ds_seq (ds_if (dtx_of (dt_or (dt_not (dt_bl (df_of (de_fn E_is_number.len (da_cons de_var da_nil))))) (dt_not (dt_test (df_of (de_chain (df_of (de_c fun _ => .int 1)) (df_of de_var) (df_of (de_c fun _ => .int 4)) dc_le dc_le)))))) (ds_ret (dx_of (de_c fun _ => .bl false))) ds_next)
    (ds_aug (by rfl) (df_of de_var) dc_mul1)))
    (ds_ret (dx_of (de_op (df_of de_var) (df_of (de_c fun _ => .int 27)) dc_le))))))⟩)
  exact h

end K5

set_option Elab.async false
set_option linter.all false
set_option maxRecDepth 100000
set_option maxHeartbeats 4000000
namespace K5
open PySem PySem.Spec PyProof.Rows L2 Q
theorem ok_check_shape {P : Program} {w : World} {K : PySem.W.Frag} {mg : Str → Option Value} {base : Heap} {Z : Zs} {f : Addr} {fd : FuncData} (T : Txt K mg Z w) (F : Fun K "check_shape" "check_shape" s_check_shape f fd) (E_is_shape : FnE P w K mg base 2 "is_shape" ["thing"] fn_is_shape) : FnG P w K mg base 3 f fd ["shape"] (spD K 1 (fn_check_shape Z)) := by
  have h := fn_ok (P := P) (w := w) (mg := mg) (base := base) (k := 2) (g := b_check_shape Z) (fx := [true]) F sc_check_shape rfl (fun cdv A outer s H E gu hr => by
    have tk := takes_of (X := cxOf (L2.CX P w) P w K mg base N_check_shape "check_shape" (defScope s_check_shape) f cdv A outer s H E) rfl rfl rfl rfl
    exact ⟨_, (pss_one (ps_if (pt_not (pt_val (pe_fnE E_is_shape (Room.mono hr (by omega)) gu (by rfl) (fun σ => passNo σ) (pa_cons (pv 0) pa_nil)))) (pss_one (ps_raise rfl tk (pmk_own PySem.F.excBase_ValueError T.x_NoShape T.c_NoShape T.p_NoShape (raises_own T.u_NoShape T.t_NoShape) (by rfl)))) pss_nil)), (ds_if (dtx_of (dt_not (dt_bl (df_of (de_fn E_is_shape.len (da_cons de_var da_nil)))))) ds_raise ds_next)⟩)
  exact h

end K5

set_option Elab.async false
set_option linter.all false
set_option maxRecDepth 100000
set_option maxHeartbeats 4000000
namespace K5
open PySem PySem.Spec PyProof.Rows L2 Q
theorem ok_has_part_form {P : Program} {w : World} {K : PySem.W.Frag} {mg : Str → Option Value} {base : Heap} {Z : Zs} {f : Addr} {fd : FuncData} (T : Txt K mg Z w) (F : Fun K "has_part_form" "has_part_form" s_has_part_form f fd) (E_is_below : FnE P w K mg base 2 "is_below" ["thing", "most"] fn_is_below) : FnG P w K mg base 3 f fd ["shape", "thing"] (spD K 2 fn_has_part_form) := by
  have h := fn_ok (P := P) (w := w) (mg := mg) (base := base) (k := 2) (g := b_has_part_form) (fx := [true, true]) F sc_has_part_form rfl (fun cdv A outer s H E gu hr => by
    have tk := takes_of (X := cxOf (L2.CX P w) P w K mg base N_has_part_form "has_part_form" (defScope s_has_part_form) f cdv A outer s H E) rfl rfl rfl rfl
    exact ⟨_, (pss_cons (ps_if (PW.pt (pw_or (pt_not (pt_val (pe_callB call_isi (by rfl) T.b_isinstance (by decide +kernel) (pa_cons (pv 1) (pa_cons (pe_bltn (v := .ty "tuple") (by rfl) T.b_tuple (by decide +kernel) rfl) pa_nil))))) (pw_or1 (pt_cmpR (op_eqD hr.units) (pe_callB call_len (by rfl) T.b_len (by decide +kernel) (pa_cons (pv 1) pa_nil)) pe_int (nomark _))))) (pss_one (ps_ret pe_bl)) pss_nil)
    (pss_cons (ps_set (i := 2) sc_has_part_form.nd rfl (Or.inl rfl) (pe_ix ix_seq (pv 1) pe_int (fun _ _ => rfl)))
    (pss_cons (ps_if (PW.pt (pw_or (pt_not (pt_val (pe_callB call_isi (by rfl) T.b_isinstance (by decide +kernel) (pa_cons (pv 2) (pa_cons (pe_bltn (v := .ty "str") (by rfl) T.b_str (by decide +kernel) rfl) pa_nil))))) (pw_or1 (pt_cmpR (op_neD hr.units) (pe_kget (by rfl) T.k_LENGTHS T.r_LENGTHS (pv 2) ⟨rfl, rfl, rfl, rfl⟩) (pe_callB call_len (by rfl) T.b_len (by decide +kernel) (pa_cons (pv 1) pa_nil)) (nomark _))))) (pss_one (ps_ret pe_bl)) pss_nil)
    (pss_cons (ps_if (pt_cmpR op_in_seq (pv 2) (pe_glob (v := .ref Z.FIELD_WORDS) (by rfl) T.k_FIELD_WORDS rfl) (by rfl)) (pss_one (ps_ret (pe_and (pe_fnE E_is_below (Room.mono hr (by omega)) gu (by rfl) (fun σ => passNo σ) (pa_cons (pe_ix ix_seq (pv 1) pe_int (fun _ _ => rfl)) (pa_cons (pe_callB call_len (by rfl) T.b_len (by decide +kernel) (pa_cons (pv 0) pa_nil)) pa_nil))) (pe_one (pe_fnE E_is_below (Room.mono hr (by omega)) gu (by rfl) (fun σ => passNo σ) (pa_cons (pe_ix ix_seq (pv 1) pe_int (fun _ _ => rfl)) (pa_cons (pe_ix ix_seq (pv 0) (pe_ix ix_seq (pv 1) pe_int (fun _ _ => rfl)) (fun _ _ => rfl)) pa_nil))))))) pss_nil)
    (pss_one (ps_ret pe_bl)))))), (ds_seq (ds_if (dtx_of (dt_or (dt_not (dt_bl (df_of (de_isi (c := .tuple) (df_of de_var))))) (dt_test (df_of (de_op (df_of (de_with (fd_cons (df_of de_var) fd_nil) dc_len)) (df_of (de_c fun _ => .int 0)) dc_eq))))) (ds_ret (dx_of (de_c fun _ => .bl false))) ds_next)
    (ds_seq (ds_asg (dx_of (de_op (df_of de_var) (df_of (de_c fun _ => .int 0)) dc_ix)) (dg_name (by rfl)))
    (ds_seq (ds_if (dtx_of (dt_or (dt_not (dt_bl (df_of (de_isi (c := .str) (df_of de_var))))) (dt_test (df_of (de_op (df_of (de_un (df_of de_var) (dc_kget fun G x => tab_rp G _ x))) (df_of (de_with (fd_cons (df_of de_var) fd_nil) dc_len)) dc_ne))))) (ds_ret (dx_of (de_c fun _ => .bl false))) ds_next)
    (ds_seq (ds_if (dtx_of (dt_test (df_of (de_op (df_of de_var) (df_of (de_c T.r_FIELD_WORDS)) dc_in)))) (ds_ret (dx_of (de_andV (df_of (de_fn E_is_below.len (da_cons (de_op (df_of de_var) (df_of (de_c fun _ => .int 1)) dc_ix) (da_cons (de_with (fd_cons (df_of de_var) fd_nil) dc_len) da_nil)))) (df_of (de_fn E_is_below.len (da_cons (de_op (df_of de_var) (df_of (de_c fun _ => .int 2)) dc_ix) (da_cons (de_op (df_of de_var) (df_of (de_op (df_of de_var) (df_of (de_c fun _ => .int 1)) dc_ix)) dc_ix) da_nil))))))) ds_next)
    (ds_ret (dx_of (de_c fun _ => .bl true)))))))⟩)
  exact h

end K5

set_option Elab.async false
set_option linter.all false
set_option maxRecDepth 100000
set_option maxHeartbeats 4000000
namespace K5
open PySem PySem.Spec PyProof.Rows L2 Q
theorem ok_inner_parts {P : Program} {w : World} {K : PySem.W.Frag} {mg : Str → Option Value} {base : Heap} {Z : Zs} {f : Addr} {fd : FuncData} (T : Txt K mg Z w) (F : Fun K "inner_parts" "inner_parts" s_inner_parts f fd) : FnG P w K mg base 1 f fd ["part"] (spD K 1 fn_inner_parts) := by
  have h := fn_ok (P := P) (w := w) (mg := mg) (base := base) (k := 0) (g := b_inner_parts) (fx := [true]) F sc_inner_parts rfl (fun cdv A outer s H E gu hr => by
    have tk := takes_of (X := cxOf (L2.CX P w) P w K mg base N_inner_parts "inner_parts" (defScope s_inner_parts) f cdv A outer s H E) rfl rfl rfl rfl
    exact ⟨_, (pss_one (ps_ret (pe_ifExp (pt_cmpR op_in_seq (pe_ix ix_seq (pv 0) pe_int (fun _ _ => rfl)) (pe_glob (v := .ref Z.FIELD_WORDS) (by rfl) T.k_FIELD_WORDS rfl) (by rfl)) (pe_tup pa_nil) (pe_slice sl_tupA (pv 0) (po_some pe_int) po_none)))), (ds_ret (dx_of (de_if (dt_test (df_of (de_op (df_of (de_op (df_of de_var) (df_of (de_c fun _ => .int 0)) dc_ix)) (df_of (de_c T.r_FIELD_WORDS)) dc_in))) (de_tup fd_nil) (de_sl dsl_tup (df_of de_var) (dp_at (df_of (de_c fun _ => .int 1))) dp_no))))⟩)
  exact h

end K5

set_option Elab.async false
set_option linter.all false
set_option maxRecDepth 100000
set_option maxHeartbeats 4000000
namespace K5
open PySem PySem.Spec PyProof.Rows L2 Q
theorem ok_is_made_well {P : Program} {w : World} {K : PySem.W.Frag} {mg : Str → Option Value} {base : Heap} {Z : Zs} {f : Addr} {fd : FuncData} (T : Txt K mg Z w) (F : Fun K "is_made_well" "is_made_well" s_is_made_well f fd) (E_has_part_form : FnE P w K mg base 3 "has_part_form" ["shape", "thing"] fn_has_part_form) (E_inner_parts : FnE P w K mg base 1 "inner_parts" ["part"] fn_inner_parts) : FnG P w K mg base 4 f fd ["shape", "thing", "as_test"] (spD K 3 fn_is_made_well) := by
  have h := fn_ok (P := P) (w := w) (mg := mg) (base := base) (k := 3) (g := b_is_made_well) (fx := [true, true, true]) F sc_is_made_well rfl (fun cdv A outer s H E gu hr => by
    have tk := takes_of (X := cxOf (L2.CX P w) P w K mg base N_is_made_well "is_made_well" (defScope s_is_made_well) f cdv A outer s H E) rfl rfl rfl rfl
    exact ⟨_, (pss_cons (ps_set (i := 3) sc_is_made_well.nd rfl (Or.inl rfl) pe_int)
    (pss_cons (ps_set (i := 4) sc_is_made_well.nd rfl (Or.inl rfl) (pe_lst (pa_cons (pe_tup (pa_cons (pv 1) (pa_cons (pv 2) pa_nil))) pa_nil)))
    (pss_cons (ps_while (passes_of rfl) (pt_truth (pv 4) (by intro _; rfl)) (pss_cons (ps_asg (pe_bm0 PySem.F.plainAttrs_list PySem.F.slot_list_pop PySem.F.type_list_pop mt_pop (pv 4)) (pg_tup rfl (pgs_cons (pg_name (i := 5) sc_is_made_well.nd rfl (Or.inl rfl)) (pgs_cons (pg_name (i := 6) sc_is_made_well.nd rfl (Or.inl rfl)) pgs_nil))))
    (pss_cons (ps_if (pt_not (pt_val (pe_fnE E_has_part_form (Room.mono hr (by omega)) gu (by rfl) (fun σ => passNo σ) (pa_cons (pv 0) (pa_cons (pv 5) pa_nil))))) (pss_one (ps_ret pe_bl)) pss_nil)
    (pss_cons (ps_set (i := 7) sc_is_made_well.nd rfl (Or.inl rfl) (pe_ix ix_seq (pv 5) pe_int (fun _ _ => rfl)))
    (pss_cons (ps_if (PW.pt (pw_and (pt_truth (pv 6) (by intro _; rfl)) (pw_and1 (pt_cmpR op_notIn_seq (pv 7) (pe_glob (v := .ref Z.TEST_WORDS) (by rfl) T.k_TEST_WORDS rfl) (by rfl))))) (pss_one (ps_ret pe_bl)) pss_nil)
    (pss_cons (ps_if (pt_cmpR (op_eqD hr.units) (pv 7) pe_str (nomark _)) (pss_one (ps_aug (i := 3) sc_is_made_well.nd rfl (Or.inl rfl) pe_int iop_add)) pss_nil)
    (pss_cons (ps_if (pt_cmpR op_gt (pv 3) (pe_glob (v := .int 5) (by rfl) T.k_MOST_NOTES ⟨_, rfl⟩) (nomark _)) (pss_one (ps_ret pe_bl)) pss_nil)
    (pss_one (ps_for (passes_of rfl) rfl (pi_tup (pe_fnE E_inner_parts (Room.mono hr (by omega)) gu (by rfl) (fun σ => passNo σ) (pa_cons (pv 5) pa_nil))) (pg_name (i := 8) sc_is_made_well.nd rfl (Or.inl rfl)) (pss_one (ps_expr (pe_bm PySem.F.plainAttrs_list PySem.F.slot_list_append PySem.F.type_list_append mt_append (pv 4) (pa_cons (pe_tup (pa_cons (pv 8) (pa_cons (pe_or (pv 6) (pe_one (pe_cmpR (op_eqD hr.units) (pv 7) pe_str (nomark _)))) pa_nil))) pa_nil)))))))))))))
    (pss_one (ps_ret pe_bl))))), (ds_seq (ds_asg (dx_of (de_c fun _ => .int 0)) (dg_name (by rfl)))
    (ds_seq (ds_asg (dx_of (de_lst (fd_cons (df_of (de_tup (fd_cons (df_of de_var) (fd_cons (df_of de_var) fd_nil)))) fd_nil))) (dg_name (by rfl)))
    (ds_seq (ds_while (dtx_of (dt_scal (dt_tru (df_of de_var)))) (ds_seq (ds_asg (dx_of de_pop) (dg_tup (dgs_cons (dg_name (by rfl)) (dgs_cons (dg_name (by rfl)) dgs_nil))))
    (ds_seq (ds_if (dtx_of (dt_not (dt_bl (df_of (de_fn E_has_part_form.len (da_cons de_var (da_cons de_var da_nil))))))) (ds_ret (dx_of (de_c fun _ => .bl false))) ds_next)
    (ds_seq (ds_asg (dx_of (de_op (df_of de_var) (df_of (de_c fun _ => .int 0)) dc_ix)) (dg_name (by rfl)))
    (ds_seq (ds_if (dtx_of (dt_and (dt_tru (df_of de_var)) (dt_test (df_of (de_op (df_of de_var) (df_of (de_c T.r_TEST_WORDS)) dc_in))))) (ds_ret (dx_of (de_c fun _ => .bl false))) ds_next)
    (ds_seq (ds_if (dtx_of (dt_test (df_of (de_op (df_of de_var) (df_of (de_c fun _ => .str "note")) dc_eq)))) (ds_aug (by rfl) (df_of (de_c fun _ => .int 1)) dc_add) ds_next)
    (ds_seq (ds_if (dtx_of (dt_test (df_of (de_op (df_of de_var) (df_of (de_c fun _ => .int 5)) dc_gt)))) (ds_ret (dx_of (de_c fun _ => .bl false))) ds_next)
    (ds_for (di_tup (df_of (de_fn E_inner_parts.len (da_cons de_var da_nil)))) (dg_name (by rfl)) (ds_drop (dx_of (de_append (dm_of (de_tup (fd_cons (df_of de_var) (fd_cons (df_of (de_orV (df_of de_var) (df_of (de_op (df_of de_var) (df_of (de_c fun _ => .str "not")) dc_eq)))) fd_nil)))))))))))))))
    (ds_ret (dx_of (de_c fun _ => .bl true))))))⟩)
  exact h

end K5

set_option Elab.async false
set_option linter.all false
set_option maxRecDepth 100000
set_option maxHeartbeats 4000000
namespace K5
open PySem PySem.Spec PyProof.Rows L2 Q
theorem ok_is_saying {P : Program} {w : World} {K : PySem.W.Frag} {mg : Str → Option Value} {base : Heap} {Z : Zs} {f : Addr} {fd : FuncData} (T : Txt K mg Z w) (F : Fun K "is_saying" "is_saying" s_is_saying f fd) (E_check_shape : FnE P w K mg base 3 "check_shape" ["shape"] (fn_check_shape Z)) (E_is_made_well : FnE P w K mg base 4 "is_made_well" ["shape", "thing", "as_test"] fn_is_made_well) : FnG P w K mg base 5 f fd ["shape", "thing"] (spD K 2 (fn_is_saying Z)) := by
  have h := fn_ok (P := P) (w := w) (mg := mg) (base := base) (k := 4) (g := b_is_saying Z) (fx := [true, true]) F sc_is_saying rfl (fun cdv A outer s H E gu hr => by
    have tk := takes_of (X := cxOf (L2.CX P w) P w K mg base N_is_saying "is_saying" (defScope s_is_saying) f cdv A outer s H E) rfl rfl rfl rfl
    exact ⟨_, (pss_cons (ps_expr (pe_fnE (E := WE _) E_check_shape (Room.mono hr (by omega)) gu (by rfl) (fun σ => passAt tk σ) (pa_cons (pv 0) pa_nil)))
    (pss_one (ps_ret (pe_fnE E_is_made_well (Room.mono hr (by omega)) gu (by rfl) (fun σ => passNo σ) (pa_cons (pv 0) (pa_cons (pv 1) (pa_cons pe_bl pa_nil))))))), (ds_seq (ds_drop (dx_ucall E_check_shape.len (da_cons de_var da_nil)))
    (ds_ret (dx_of (de_fn E_is_made_well.len (da_cons de_var (da_cons de_var (da_cons (de_c fun _ => .bl false) da_nil)))))))⟩)
  exact h

end K5

set_option Elab.async false
set_option linter.all false
set_option maxRecDepth 100000
set_option maxHeartbeats 4000000
namespace K5
open PySem PySem.Spec PyProof.Rows L2 Q
theorem ok_check_saying {P : Program} {w : World} {K : PySem.W.Frag} {mg : Str → Option Value} {base : Heap} {Z : Zs} {f : Addr} {fd : FuncData} (T : Txt K mg Z w) (F : Fun K "check_saying" "check_saying" s_check_saying f fd) (E_is_saying : FnE P w K mg base 5 "is_saying" ["shape", "thing"] (fn_is_saying Z)) : FnG P w K mg base 6 f fd ["shape", "saying"] (spD K 2 (fn_check_saying Z)) := by
  have h := fn_ok (P := P) (w := w) (mg := mg) (base := base) (k := 5) (g := b_check_saying Z) (fx := [true, true]) F sc_check_saying rfl (fun cdv A outer s H E gu hr => by
    have tk := takes_of (X := cxOf (L2.CX P w) P w K mg base N_check_saying "check_saying" (defScope s_check_saying) f cdv A outer s H E) rfl rfl rfl rfl
    exact ⟨_, (pss_one (ps_if (pt_not (pt_val (pe_fnE (E := WE _) E_is_saying (Room.mono hr (by omega)) gu (by rfl) (fun σ => passAt tk σ) (pa_cons (pv 0) (pa_cons (pv 1) pa_nil))))) (pss_one (ps_raise rfl tk (pmk_own PySem.F.excBase_ValueError T.x_NoSaying T.c_NoSaying T.p_NoSaying (raises_own T.u_NoSaying T.t_NoSaying) (by rfl)))) pss_nil)), (ds_if (dtx_not (dtx_bl (dx_ucall E_is_saying.len (da_cons de_var (da_cons de_var da_nil))))) ds_raise ds_next)⟩)
  exact h

end K5

set_option Elab.async false
set_option linter.all false
set_option maxRecDepth 100000
set_option maxHeartbeats 4000000
namespace K5
open PySem PySem.Spec PyProof.Rows L2 Q
theorem ok_turned_inner {P : Program} {w : World} {K : PySem.W.Frag} {mg : Str → Option Value} {base : Heap} {Z : Zs} {f : Addr} {fd : FuncData} (T : Txt K mg Z w) (F : Fun K "turned_inner" "turned_inner" s_turned_inner f fd) (E_inner_parts : FnE P w K mg base 1 "inner_parts" ["part"] fn_inner_parts) : FnG P w K mg base 2 f fd ["part"] (spD K 1 fn_turned_inner) := by
  have h := fn_ok (P := P) (w := w) (mg := mg) (base := base) (k := 1) (g := b_turned_inner) (fx := [true]) F sc_turned_inner rfl (fun cdv A outer s H E gu hr => by
    have tk := takes_of (X := cxOf (L2.CX P w) P w K mg base N_turned_inner "turned_inner" (defScope s_turned_inner) f cdv A outer s H E) rfl rfl rfl rfl
    exact ⟨_, (pss_one (ps_ret (pe_ifExp (pt_cmpR (op_eqD hr.units) (pe_ix ix_seq (pv 0) pe_int (fun _ _ => rfl)) pe_str (nomark _)) (pe_tup pa_nil) (pe_fnE E_inner_parts (Room.mono hr (by omega)) gu (by rfl) (fun σ => passNo σ) (pa_cons (pv 0) pa_nil))))), (ds_ret (dx_of (de_if (dt_test (df_of (de_op (df_of (de_op (df_of de_var) (df_of (de_c fun _ => .int 0)) dc_ix)) (df_of (de_c fun _ => .str "not")) dc_eq))) (de_tup fd_nil) (de_fn E_inner_parts.len (da_cons de_var da_nil)))))⟩)
  exact h

end K5

set_option Elab.async false
set_option linter.all false
set_option maxRecDepth 100000
set_option maxHeartbeats 4000000
namespace K5
open PySem PySem.Spec PyProof.Rows L2 Q
theorem ok_parts_by {P : Program} {w : World} {K : PySem.W.Frag} {mg : Str → Option Value} {base : Heap} {Z : Zs} {f : Addr} {fd : FuncData} (T : Txt K mg Z w) (F : Fun K "parts_by" "parts_by" s_parts_by f fd) (E_turned_inner : FnE P w K mg base 2 "turned_inner" ["part"] fn_turned_inner) : FnG P w K mg base 3 f fd ["saying", "inner_of"] (spD K 2 (fn_parts_by Z)) := by
  have h := fn_ok (P := P) (w := w) (mg := mg) (base := base) (k := 2) (g := b_parts_by Z) (fx := [true, true]) F sc_parts_by rfl (fun cdv A outer s H E gu hr => by
    have tk := takes_of (X := cxOf (L2.CX P w) P w K mg base N_parts_by "parts_by" (defScope s_parts_by) f cdv A outer s H E) rfl rfl rfl rfl
    exact ⟨_, (pss_cons (ps_set (i := 2) sc_parts_by.nd rfl (Or.inl rfl) (pe_lst pa_nil))
    (pss_cons (ps_set (i := 3) sc_parts_by.nd rfl (Or.inl rfl) (pe_lst (pa_cons (pv 0) pa_nil)))
    (pss_cons (ps_while (passes_of rfl) (pt_truth (pv 3) (by intro _; rfl)) (pss_cons (ps_set (i := 4) sc_parts_by.nd rfl (Or.inl rfl) (pe_bm0 PySem.F.plainAttrs_list PySem.F.slot_list_pop PySem.F.type_list_pop mt_pop (pv 3)))
    (pss_cons (ps_expr (pe_bm PySem.F.plainAttrs_list PySem.F.slot_list_append PySem.F.type_list_append mt_append (pv 2) (pa_cons (pv 4) pa_nil)))
    (pss_one (ps_expr (pe_bm PySem.F.plainAttrs_list PySem.F.slot_list_extend PySem.F.type_list_extend mt_extendT (pv 3) (pa_cons (pe_revT (pe_callV (i := 1) (S := fun a => (tab_parts_by Z a).map fun fn => spD K 1 fn) (fun f sp h => by
        unfold tab_parts_by at h
        by_cases c : f = Z.f_turned_inner
        · rw [if_pos c] at h; subst c; cases h; exact held_of E_turned_inner T.g_turned_inner (by omega)
        · rw [if_neg c] at h
          cases h) hr gu rfl (by first | exact Or.inl rfl | exact Or.inr (Or.inl rfl) | exact Or.inr (Or.inr rfl)) (pa_cons (pv 4) pa_nil))) pa_nil)))))))
    (pss_one (ps_ret (pv 2)))))), (ds_seq (ds_asg (dx_of (de_lst fd_nil)) (dg_name (by rfl)))
    (ds_seq (ds_asg (dx_of (de_lst (fd_cons (df_of de_var) fd_nil))) (dg_name (by rfl)))
    (ds_seq (ds_while (dtx_of (dt_scal (dt_tru (df_of de_var)))) (ds_seq (ds_asg (dx_of de_pop) (dg_name (by rfl)))
    (ds_seq (ds_drop (dx_of (de_append (dm_of de_var))))
    (ds_drop (dx_of (de_extend (df_of (de_un (df_of (de_callV (fun a fn h => by
        unfold tab_parts_by at h
        by_cases c : a = Z.f_turned_inner
        · rw [if_pos c] at h; cases h; exact E_turned_inner.len
        · rw [if_neg c] at h
          cases h) (da_cons de_var da_nil))) dc_revT))))))))
    (ds_ret (dx_of de_var)))))⟩)
  exact h

end K5

set_option Elab.async false
set_option linter.all false
set_option maxRecDepth 100000
set_option maxHeartbeats 4000000
namespace K5
open PySem PySem.Spec PyProof.Rows L2 Q
theorem ok_in_turn {P : Program} {w : World} {K : PySem.W.Frag} {mg : Str → Option Value} {base : Heap} {Z : Zs} {f : Addr} {fd : FuncData} (T : Txt K mg Z w) (F : Fun K "in_turn" "in_turn" s_in_turn f fd) : FnG P w K mg base 1 f fd ["word", "sayings", "last"] (spD K 3 fn_in_turn) := by
  have h := fn_ok (P := P) (w := w) (mg := mg) (base := base) (k := 0) (g := b_in_turn) (fx := [true, true, true]) F sc_in_turn rfl (fun cdv A outer s H E gu hr => by
    have tk := takes_of (X := cxOf (L2.CX P w) P w K mg base N_in_turn "in_turn" (defScope s_in_turn) f cdv A outer s H E) rfl rfl rfl rfl
    exact ⟨_, (pss_cons (ps_set (i := 3) sc_in_turn.nd rfl (Or.inl rfl) (pv 2))
    (pss_cons (ps_for (passes_of rfl) rfl (RT.pi_revA (by rfl) T.b_reversed (pv 1)) (pg_name (i := 4) sc_in_turn.nd rfl (Or.inl rfl)) (pss_one (ps_set (i := 3) sc_in_turn.nd rfl (Or.inl rfl) (pe_tup (pa_cons (pv 0) (pa_cons (pv 4) (pa_cons (pv 3) pa_nil)))))))
    (pss_one (ps_ret (pv 3))))), (ds_seq (ds_asg (dx_of de_var) (dg_name (by rfl)))
    (ds_seq (ds_for (di_rev (df_of de_var)) (dg_name (by rfl)) (ds_asg (dx_of (de_tup (fd_cons (df_of de_var) (fd_cons (df_of de_var) (fd_cons (df_of de_var) fd_nil))))) (dg_name (by rfl))))
    (ds_ret (dx_of de_var))))⟩)
  exact h

end K5

set_option Elab.async false
set_option linter.all false
set_option maxRecDepth 100000
set_option maxHeartbeats 4000000
namespace K5
open PySem PySem.Spec PyProof.Rows L2 Q
theorem ok_turned_put {P : Program} {w : World} {K : PySem.W.Frag} {mg : Str → Option Value} {base : Heap} {Z : Zs} {f : Addr} {fd : FuncData} (T : Txt K mg Z w) (F : Fun K "turned_put" "turned_put" s_turned_put f fd) (E_in_turn : FnE P w K mg base 1 "in_turn" ["word", "sayings", "last"] fn_in_turn) : FnG P w K mg base 2 f fd ["shape", "field", "value"] (spD K 3 fn_turned_put) := by
  have h := fn_ok (P := P) (w := w) (mg := mg) (base := base) (k := 1) (g := b_turned_put) (fx := [true, true, true]) F sc_turned_put rfl (fun cdv A outer s H E gu hr => by
    have tk := takes_of (X := cxOf (L2.CX P w) P w K mg base N_turned_put "turned_put" (defScope s_turned_put) f cdv A outer s H E) rfl rfl rfl rfl
    exact ⟨_, (pss_cons (ps_setLc (i := 3) (own := [("before", 4)]) rfl sc_turned_put.nd rfl rfl (sw_true rfl rfl rfl (by decide +kernel)) (pi_range1 (by rfl) T.b_range (pa_cons (pe_ix ix_seq (pv 0) (pv 1) (fun _ _ => rfl)) pa_nil)) (blkOk_by (N := N_turned_put) (sc := defScope s_turned_put) (by decide +kernel)) (fun _ _ _ _ _ => (pg_name (i := 4) sc_turned_put.nd rfl (Or.inl rfl))) (fun _ _ _ _ _ => pts_nil) (fun _ _ _ _ _ => (pe_tup (pa_cons pe_str (pa_cons (pv 1) (pa_cons (pv 4) pa_nil))))))
    (pss_one (ps_ret (pe_tup (pa_cons pe_str (pa_cons (pe_tup (pa_cons pe_str (pa_cons (pv 1) (pa_cons (pv 2) pa_nil)))) (pa_cons (pe_fnE E_in_turn (Room.mono hr (by omega)) gu (by rfl) (fun σ => passNo σ) (pa_cons pe_str (pa_cons (pe_slice sl_list (pv 3) po_none (po_some (pe_un un_neg pe_int))) (pa_cons (pe_ix ix_seq (pv 3) (pe_un un_neg pe_int) (fun _ _ => rfl)) pa_nil)))) pa_nil))))))), (ds_seq (ds_asg (dx_of (de_comp (di_range1 (fd_cons (df_of (de_op (df_of de_var) (df_of de_var) dc_ix)) fd_nil)) (dg_name (by rfl)) dt_yes (dm_of (de_tup (fd_cons (df_of (de_c fun _ => .str "put")) (fd_cons (df_of de_var) (fd_cons (df_of de_var) fd_nil))))))) (dg_name (by rfl)))
    (ds_ret (dx_of (de_tup (fd_cons (df_of (de_c fun _ => .str "then")) (fd_cons (df_of (de_tup (fd_cons (df_of (de_c fun _ => .str "is")) (fd_cons (df_of de_var) (fd_cons (df_of de_var) fd_nil))))) (fd_cons (df_of (de_fn E_in_turn.len (da_cons (de_c fun _ => .str "either") (da_cons (de_sl dsl_lst (df_of de_var) dp_no (dp_at (df_of (de_un (df_of (de_c fun _ => .int 1)) dc_neg)))) (da_cons (de_op (df_of de_var) (df_of (de_un (df_of (de_c fun _ => .int 1)) dc_neg)) dc_ix) da_nil))))) fd_nil)))))))⟩)
  exact h

end K5

set_option Elab.async false
set_option linter.all false
set_option maxRecDepth 100000
set_option maxHeartbeats 4000000
namespace K5
open PySem PySem.Spec PyProof.Rows L2 Q
theorem ok_turned_part {P : Program} {w : World} {K : PySem.W.Frag} {mg : Str → Option Value} {base : Heap} {Z : Zs} {f : Addr} {fd : FuncData} (T : Txt K mg Z w) (F : Fun K "turned_part" "turned_part" s_turned_part f fd) (E_turned_put : FnE P w K mg base 2 "turned_put" ["shape", "field", "value"] fn_turned_put) : FnG P w K mg base 3 f fd ["shape", "part", "made"] (spD K 3 fn_turned_part) := by
  have h := fn_ok (P := P) (w := w) (mg := mg) (base := base) (k := 2) (g := b_turned_part) (fx := [true, true, true]) F sc_turned_part rfl (fun cdv A outer s H E gu hr => by
    have tk := takes_of (X := cxOf (L2.CX P w) P w K mg base N_turned_part "turned_part" (defScope s_turned_part) f cdv A outer s H E) rfl rfl rfl rfl
    exact ⟨_, (pss_cons (ps_set (i := 3) sc_turned_part.nd rfl (Or.inl rfl) (pe_ix ix_seq (pv 1) pe_int (fun _ _ => rfl)))
    (pss_cons (ps_if (pt_cmpR (op_eqD hr.units) (pv 3) pe_str (nomark _)) (pss_one (ps_ret (pe_fnE E_turned_put (Room.mono hr (by omega)) gu (by rfl) (fun σ => passNo σ) (pa_cons (pv 0) (pa_cons (pe_ix ix_seq (pv 1) pe_int (fun _ _ => rfl)) (pa_cons (pe_ix ix_seq (pv 1) pe_int (fun _ _ => rfl)) pa_nil)))))) pss_nil)
    (pss_cons (ps_if (pt_cmpR (op_eqD hr.units) (pv 3) pe_str (nomark _)) (pss_one (ps_ret (pe_tup (pa_cons (pv 3) (pa_cons (pe_bm0 PySem.F.plainAttrs_list PySem.F.slot_list_pop PySem.F.type_list_pop mt_pop (pv 2)) pa_nil))))) pss_nil)
    (pss_cons (ps_if (pt_cmpR op_notIn_seq (pv 3) (pe_tup (pa_cons pe_str (pa_cons pe_str pa_nil))) (by rfl)) (pss_one (ps_ret (pv 1))) pss_nil)
    (pss_cons (ps_set (i := 4) sc_turned_part.nd rfl (Or.inl rfl) (pe_bm0 PySem.F.plainAttrs_list PySem.F.slot_list_pop PySem.F.type_list_pop mt_pop (pv 2)))
    (pss_cons (ps_set (i := 5) sc_turned_part.nd rfl (Or.inl rfl) (pe_bm0 PySem.F.plainAttrs_list PySem.F.slot_list_pop PySem.F.type_list_pop mt_pop (pv 2)))
    (pss_one (ps_ret (pe_ifExp (pt_cmpR (op_eqD hr.units) (pv 3) pe_str (nomark _)) (pe_tup (pa_cons (pv 3) (pa_cons (pv 5) (pa_cons (pv 4) pa_nil)))) (pe_tup (pa_cons (pv 3) (pa_cons (pv 4) (pa_cons (pv 5) pa_nil))))))))))))), (ds_seq (ds_asg (dx_of (de_op (df_of de_var) (df_of (de_c fun _ => .int 0)) dc_ix)) (dg_name (by rfl)))
    (ds_seq (ds_if (dtx_of (dt_test (df_of (de_op (df_of de_var) (df_of (de_c fun _ => .str "put")) dc_eq)))) (ds_ret (dx_of (de_fn E_turned_put.len (da_cons de_var (da_cons (de_op (df_of de_var) (df_of (de_c fun _ => .int 1)) dc_ix) (da_cons (de_op (df_of de_var) (df_of (de_c fun _ => .int 2)) dc_ix) da_nil)))))) ds_next)
    (ds_seq (ds_if (dtx_of (dt_test (df_of (de_op (df_of de_var) (df_of (de_c fun _ => .str "again")) dc_eq)))) (ds_ret (dx_of (de_tup (fd_cons (df_of de_var) (fd_cons (df_of de_pop) fd_nil))))) ds_next)
    (ds_seq (ds_if (dtx_of (dt_test (df_of (de_op (df_of de_var) (df_of (de_tup (fd_cons (df_of (de_c fun _ => .str "then")) (fd_cons (df_of (de_c fun _ => .str "either")) fd_nil)))) dc_in)))) (ds_ret (dx_of de_var)) ds_next)
    (ds_seq (ds_asg (dx_of de_pop) (dg_name (by rfl)))
    (ds_seq (ds_asg (dx_of de_pop) (dg_name (by rfl)))
    (ds_ret (dx_of (de_if (dt_test (df_of (de_op (df_of de_var) (df_of (de_c fun _ => .str "then")) dc_eq))) (de_tup (fd_cons (df_of de_var) (fd_cons (df_of de_var) (fd_cons (df_of de_var) fd_nil)))) (de_tup (fd_cons (df_of de_var) (fd_cons (df_of de_var) (fd_cons (df_of de_var) fd_nil)))))))))))))⟩)
  exact h

end K5

set_option Elab.async false
set_option linter.all false
set_option maxRecDepth 100000
set_option maxHeartbeats 4000000
namespace K5
open PySem PySem.Spec PyProof.Rows L2 Q
theorem ok_turned_saying {P : Program} {w : World} {K : PySem.W.Frag} {mg : Str → Option Value} {base : Heap} {Z : Zs} {f : Addr} {fd : FuncData} (T : Txt K mg Z w) (F : Fun K "turned_saying" "turned_saying" s_turned_saying f fd) (E_check_saying : FnE P w K mg base 6 "check_saying" ["shape", "saying"] (fn_check_saying Z)) (E_parts_by : FnE P w K mg base 3 "parts_by" ["saying", "inner_of"] (fn_parts_by Z)) (E_turned_part : FnE P w K mg base 3 "turned_part" ["shape", "part", "made"] fn_turned_part) : FnG P w K mg base 7 f fd ["shape", "saying"] (spD K 2 (fn_turned_saying Z)) := by
  have h := fn_ok (P := P) (w := w) (mg := mg) (base := base) (k := 6) (g := b_turned_saying Z) (fx := [true, true]) F sc_turned_saying rfl (fun cdv A outer s H E gu hr => by
    have tk := takes_of (X := cxOf (L2.CX P w) P w K mg base N_turned_saying "turned_saying" (defScope s_turned_saying) f cdv A outer s H E) rfl rfl rfl rfl
    exact ⟨_, (pss_cons (ps_expr (pe_fnE (E := WE _) E_check_saying (Room.mono hr (by omega)) gu (by rfl) (fun σ => passAt tk σ) (pa_cons (pv 0) (pa_cons (pv 1) pa_nil))))
    (pss_cons (ps_set (i := 2) sc_turned_saying.nd rfl (Or.inl rfl) (pe_lst pa_nil))
    (pss_cons (ps_for (passes_of rfl) rfl (RT.pi_revA (by rfl) T.b_reversed (pe_fnE E_parts_by (Room.mono hr (by omega)) gu (by rfl) (fun σ => passNo σ) (pa_cons (pv 1) (pa_cons (pe_glob (v := .ref Z.f_turned_inner) (by rfl) T.g_turned_inner rfl) pa_nil)))) (pg_name (i := 3) sc_turned_saying.nd rfl (Or.inl rfl)) (pss_one (ps_expr (pe_bm PySem.F.plainAttrs_list PySem.F.slot_list_append PySem.F.type_list_append mt_append (pv 2) (pa_cons (pe_fnE E_turned_part (Room.mono hr (by omega)) gu (by rfl) (fun σ => passNo σ) (pa_cons (pv 0) (pa_cons (pv 3) (pa_cons (pv 2) pa_nil)))) pa_nil)))))
    (pss_one (ps_ret (pe_bm0 PySem.F.plainAttrs_list PySem.F.slot_list_pop PySem.F.type_list_pop mt_pop (pv 2))))))), (ds_seq (ds_drop (dx_ucall E_check_saying.len (da_cons de_var (da_cons de_var da_nil))))
    (ds_seq (ds_asg (dx_of (de_lst fd_nil)) (dg_name (by rfl)))
    (ds_seq (ds_for (di_rev (df_of (de_fn E_parts_by.len (da_cons de_var (da_cons (de_c fun _ => .fnc _) da_nil))))) (dg_name (by rfl)) (ds_drop (dx_of (de_append (dm_of (de_fn E_turned_part.len (da_cons de_var (da_cons de_var (da_cons de_var da_nil)))))))))
    (ds_ret (dx_of de_pop)))))⟩)
  exact h

end K5

set_option Elab.async false
set_option linter.all false
set_option maxRecDepth 100000
set_option maxHeartbeats 4000000
namespace K5
open PySem PySem.Spec PyProof.Rows L2 Q
theorem ok__law_mixed {P : Program} {w : World} {K : PySem.W.Frag} {mg : Str → Option Value} {base : Heap} {Z : Zs} {f : Addr} {fd : FuncData} (T : Txt K mg Z w) (F : Fun K "_law_mixed" "_law_mixed" s__law_mixed f fd) : FnG P w K mg base 1 f fd ["_law_cell_here", "_law_k"] (spD K 2 fn__law_mixed) := by
  have h := fn_ok (P := P) (w := w) (mg := mg) (base := base) (k := 0) (g := b__law_mixed) (fx := [true, true]) F sc__law_mixed rfl (fun cdv A outer s H E gu hr => by
    have tk := takes_of (X := cxOf (L2.CX P w) P w K mg base N__law_mixed "_law_mixed" (defScope s__law_mixed) f cdv A outer s H E) rfl rfl rfl rfl
    exact ⟨_, (pss_cons (ps_set (i := 2) sc__law_mixed.nd rfl (Or.inl rfl) (pe_op op_mod (pe_op op_add (pe_op op_add (pe_op op_mulW (pe_op op_mod (pv 0) pe_int) pe_int) (pe_op op_mulW (pv 1) pe_int)) pe_int) pe_int))
    (pss_cons (ps_set (i := 2) sc__law_mixed.nd rfl (Or.inl rfl) (pe_op op_mod (pe_op op_mulW (pv 2) (pv 2)) pe_int))
    (pss_one (ps_ret (pe_op op_mod (pe_op op_mulW (pv 2) (pe_op op_add (pv 2) pe_int)) pe_int))))), (ds_seq (ds_asg (dx_of (de_op (df_of (de_op (df_of (de_op (df_of (de_op (df_of (de_op (df_of de_var) (df_of (de_c fun _ => .int 2147483647)) dc_mod)) (df_of (de_c fun _ => .int 48271)) dc_mul)) (df_of (de_op (df_of de_var) (df_of (de_c fun _ => .int 69621)) dc_mul)) dc_add)) (df_of (de_c fun _ => .int 1048583)) dc_add)) (df_of (de_c fun _ => .int 2147483629)) dc_mod)) (dg_name (by rfl)))
    (ds_seq (ds_asg (dx_of (de_op (df_of (de_op (df_of de_var) (df_of de_var) dc_mul)) (df_of (de_c fun _ => .int 2147483587)) dc_mod)) (dg_name (by rfl)))
    (ds_ret (dx_of (de_op (df_of (de_op (df_of de_var) (df_of (de_op (df_of de_var) (df_of (de_c fun _ => .int 2)) dc_add)) dc_mul)) (df_of (de_c fun _ => .int 2147483579)) dc_mod)))))⟩)
  exact h

end K5

set_option Elab.async false
set_option linter.all false
set_option maxRecDepth 100000
set_option maxHeartbeats 4000000
namespace K5
open PySem PySem.Spec PyProof.Rows L2 Q
theorem ok__law_cell {P : Program} {w : World} {K : PySem.W.Frag} {mg : Str → Option Value} {base : Heap} {Z : Zs} {f : Addr} {fd : FuncData} (T : Txt K mg Z w) (F : Fun K "_law_cell" "_law_cell" s__law_cell f fd) (E__law_mixed : FnE P w K mg base 1 "_law_mixed" ["_law_cell_here", "_law_k"] fn__law_mixed) : FnG P w K mg base 2 f fd ["_law_script", "_law_k"] (spD K 2 fn__law_cell) := by
  have h := fn_ok (P := P) (w := w) (mg := mg) (base := base) (k := 1) (g := b__law_cell) (fx := [true, true]) F sc__law_cell rfl (fun cdv A outer s H E gu hr => by
    have tk := takes_of (X := cxOf (L2.CX P w) P w K mg base N__law_cell "_law_cell" (defScope s__law_cell) f cdv A outer s H E) rfl rfl rfl rfl
    exact ⟨_, (pss_cons (ps_set (i := 2) sc__law_cell.nd rfl (Or.inl rfl) pe_int)
    (pss_cons (ps_if (pt_cmpR op_lt (pv 1) (pe_callB call_len (by rfl) T.b_len (by decide +kernel) (pa_cons (pv 0) pa_nil)) (nomark _)) (pss_one (ps_set (i := 2) sc__law_cell.nd rfl (Or.inl rfl) (pe_ix ix_seq (pv 0) (pv 1) (fun _ _ => rfl)))) pss_nil)
    (pss_cons (ps_if (pt_cmpR op_ge (pv 2) (pe_op op_pow pe_int pe_int) (nomark _)) (pss_one (ps_ret (pe_op op_mod (pe_op op_sub (pv 2) (pe_op op_pow pe_int pe_int)) (pe_op op_mulW (pe_op op_mulW (pe_op op_mulW (pe_op op_pow pe_int pe_int) (pe_op op_pow pe_int pe_int)) (pe_op op_pow pe_int pe_int)) (pe_op op_pow pe_int pe_int))))) pss_nil)
    (pss_cons (ps_set (i := 3) sc__law_cell.nd rfl (Or.inl rfl) pe_int)
    (pss_cons (ps_for (passes_of rfl) rfl (pi_range1 (by rfl) T.b_range (pa_cons pe_int pa_nil)) (pg_name (i := 4) sc__law_cell.nd rfl (Or.inl rfl)) (pss_one (ps_set (i := 3) sc__law_cell.nd rfl (Or.inl rfl) (pe_op op_add (pe_op op_mulW (pv 3) pe_int) (pe_fnE E__law_mixed (Room.mono hr (by omega)) gu (by rfl) (fun σ => passNo σ) (pa_cons (pv 2) (pa_cons (pe_op op_add (pe_op op_add (pe_op op_mulW pe_int (pv 1)) (pe_op op_mulW pe_int (pv 4))) (pe_op op_mulW (pv 4) (pv 4))) pa_nil)))))))
    (pss_one (ps_ret (pv 3)))))))), (ds_seq (ds_asg (dx_of (de_c fun _ => .int 0)) (dg_name (by rfl)))
    (ds_seq (ds_if (dtx_of (dt_test (df_of (de_op (df_of de_var) (df_of (de_with (fd_cons (df_of de_var) fd_nil) dc_len)) dc_lt)))) (ds_asg (dx_of (de_op (df_of de_var) (df_of de_var) dc_ix)) (dg_name (by rfl))) ds_next)
    (ds_seq (ds_if (dtx_of (dt_test (df_of (de_op (df_of de_var) (df_of (de_op (df_of (de_c fun _ => .int 10)) (df_of (de_c fun _ => .int 18)) dc_pow)) dc_ge)))) (ds_ret (dx_of (de_op (df_of (de_op (df_of de_var) (df_of (de_op (df_of (de_c fun _ => .int 10)) (df_of (de_c fun _ => .int 18)) dc_pow)) dc_sub)) (df_of (de_op (df_of (de_op (df_of (de_op (df_of (de_op (df_of (de_c fun _ => .int 10)) (df_of (de_c fun _ => .int 60)) dc_pow)) (df_of (de_op (df_of (de_c fun _ => .int 10)) (df_of (de_c fun _ => .int 60)) dc_pow)) dc_mul)) (df_of (de_op (df_of (de_c fun _ => .int 10)) (df_of (de_c fun _ => .int 60)) dc_pow)) dc_mul)) (df_of (de_op (df_of (de_c fun _ => .int 10)) (df_of (de_c fun _ => .int 60)) dc_pow)) dc_mul)) dc_mod))) ds_next)
    (ds_seq (ds_asg (dx_of (de_c fun _ => .int 0)) (dg_name (by rfl)))
    (ds_seq (ds_for (di_range1 (fd_cons (df_of (de_c fun _ => .int 24)) fd_nil)) (dg_name (by rfl)) (ds_asg (dx_of (de_op (df_of (de_op (df_of de_var) (df_of (de_c fun _ => .int 2147483579)) dc_mul)) (df_of (de_fn E__law_mixed.len (da_cons de_var (da_cons (de_op (df_of (de_op (df_of (de_op (df_of (de_c fun _ => .int 7)) (df_of de_var) dc_mul)) (df_of (de_op (df_of (de_c fun _ => .int 100)) (df_of de_var) dc_mul)) dc_add)) (df_of (de_op (df_of de_var) (df_of de_var) dc_mul)) dc_add) da_nil)))) dc_add)) (dg_name (by rfl))))
    (ds_ret (dx_of de_var)))))))⟩)
  exact h

end K5

set_option Elab.async false
set_option linter.all false
set_option maxRecDepth 100000
set_option maxHeartbeats 4000000
namespace K5
open PySem PySem.Spec PyProof.Rows L2 Q
theorem ok__law_take {P : Program} {w : World} {K : PySem.W.Frag} {mg : Str → Option Value} {base : Heap} {Z : Zs} {f : Addr} {fd : FuncData} (T : Txt K mg Z w) (F : Fun K "_law_take" "_law_take" s__law_take f fd) : FnG P w K mg base 1 f fd ["_law_pile", "_law_size"] (spD K 2 fn__law_take) := by
  have h := fn_ok (P := P) (w := w) (mg := mg) (base := base) (k := 0) (g := b__law_take) (fx := [true, true]) F sc__law_take rfl (fun cdv A outer s H E gu hr => by
    have tk := takes_of (X := cxOf (L2.CX P w) P w K mg base N__law_take "_law_take" (defScope s__law_take) f cdv A outer s H E) rfl rfl rfl rfl
    exact ⟨_, (pss_cons (ps_set (i := 2) sc__law_take.nd rfl (Or.inl rfl) (pe_op op_mod (pe_ix ix_seq (pv 0) pe_int (fun _ _ => rfl)) (pv 1)))
    (pss_cons (ps_asg (pe_op op_fdivW (pe_ix ix_seq (pv 0) pe_int (fun _ _ => rfl)) (pv 1)) (pg_sub (pv 0) pe_int set_list))
    (pss_one (ps_ret (pv 2))))), (ds_seq (ds_asg (dx_of (de_op (df_of (de_ixO (df_of (de_c fun _ => .int 0)))) (df_of de_var) dc_mod)) (dg_name (by rfl)))
    (ds_seq (ds_asg (dx_of (de_op (df_of (de_ixO (df_of (de_c fun _ => .int 0)))) (df_of de_var) dc_div)) (dg_ix (df_of (de_c fun _ => .int 0))))
    (ds_ret (dx_of de_var))))⟩)
  exact h

end K5

set_option Elab.async false
set_option linter.all false
set_option maxRecDepth 100000
set_option maxHeartbeats 4000000
namespace K5
open PySem PySem.Spec PyProof.Rows L2 Q
theorem ok__law_shape {P : Program} {w : World} {K : PySem.W.Frag} {mg : Str → Option Value} {base : Heap} {Z : Zs} {f : Addr} {fd : FuncData} (T : Txt K mg Z w) (F : Fun K "_law_shape" "_law_shape" s__law_shape f fd) (E__law_take : FnE P w K mg base 1 "_law_take" ["_law_pile", "_law_size"] fn__law_take) : FnG P w K mg base 2 f fd ["_law_pile"] (spD K 1 fn__law_shape) := by
  have h := fn_ok (P := P) (w := w) (mg := mg) (base := base) (k := 1) (g := b__law_shape) (fx := [true]) F sc__law_shape rfl (fun cdv A outer s H E gu hr => by
    have tk := takes_of (X := cxOf (L2.CX P w) P w K mg base N__law_shape "_law_shape" (defScope s__law_shape) f cdv A outer s H E) rfl rfl rfl rfl
    exact ⟨_, (pss_cons (ps_set (i := 1) sc__law_shape.nd rfl (Or.inl rfl) (pe_lst (pa_cons (pe_tup (pa_cons pe_int (pa_cons pe_int pa_nil))) (pa_cons (pe_tup (pa_cons pe_int pa_nil)) (pa_cons (pe_tup (pa_cons pe_int (pa_cons pe_int pa_nil))) (pa_cons (pe_tup (pa_cons pe_int (pa_cons pe_int pa_nil))) (pa_cons (pe_tup (pa_cons pe_int (pa_cons pe_int (pa_cons pe_int pa_nil)))) (pa_cons (pe_tup (pa_cons pe_int (pa_cons pe_int pa_nil))) (pa_cons (pe_tup (pa_cons pe_int (pa_cons pe_int pa_nil))) (pa_cons (pe_tup (pa_cons pe_int (pa_cons pe_int pa_nil))) (pa_cons (pe_tup (pa_cons pe_int (pa_cons pe_int (pa_cons pe_int pa_nil)))) (pa_cons (pe_tup (pa_cons pe_int (pa_cons pe_int (pa_cons pe_int pa_nil)))) (pa_cons (pe_tup (pa_cons pe_int pa_nil)) pa_nil)))))))))))))
    (pss_cons (ps_set (i := 1) sc__law_shape.nd rfl (Or.inl rfl) (pe_op op_cat (pv 1) (pe_lst (pa_cons (pe_tup (pa_cons pe_int pa_nil)) (pa_cons (pe_tup (pa_cons pe_int (pa_cons pe_int (pa_cons pe_int pa_nil)))) pa_nil)))))
    (pss_one (ps_ret (pe_ix ix_seq (pv 1) (pe_fnE E__law_take (Room.mono hr (by omega)) gu (by rfl) (fun σ => passNo σ) (pa_cons (pv 0) (pa_cons pe_int pa_nil))) (fun _ _ => rfl)))))), (ds_seq (ds_asg (dx_of (de_lst (fd_cons (df_of (de_tup (fd_cons (df_of (de_c fun _ => .int 2)) (fd_cons (df_of (de_c fun _ => .int 2)) fd_nil)))) (fd_cons (df_of (de_tup (fd_cons (df_of (de_c fun _ => .int 3)) fd_nil))) (fd_cons (df_of (de_tup (fd_cons (df_of (de_c fun _ => .int 2)) (fd_cons (df_of (de_c fun _ => .int 3)) fd_nil)))) (fd_cons (df_of (de_tup (fd_cons (df_of (de_c fun _ => .int 4)) (fd_cons (df_of (de_c fun _ => .int 2)) fd_nil)))) (fd_cons (df_of (de_tup (fd_cons (df_of (de_c fun _ => .int 2)) (fd_cons (df_of (de_c fun _ => .int 2)) (fd_cons (df_of (de_c fun _ => .int 2)) fd_nil))))) (fd_cons (df_of (de_tup (fd_cons (df_of (de_c fun _ => .int 3)) (fd_cons (df_of (de_c fun _ => .int 3)) fd_nil)))) (fd_cons (df_of (de_tup (fd_cons (df_of (de_c fun _ => .int 1)) (fd_cons (df_of (de_c fun _ => .int 2)) fd_nil)))) (fd_cons (df_of (de_tup (fd_cons (df_of (de_c fun _ => .int 4)) (fd_cons (df_of (de_c fun _ => .int 4)) fd_nil)))) (fd_cons (df_of (de_tup (fd_cons (df_of (de_c fun _ => .int 3)) (fd_cons (df_of (de_c fun _ => .int 3)) (fd_cons (df_of (de_c fun _ => .int 3)) fd_nil))))) (fd_cons (df_of (de_tup (fd_cons (df_of (de_c fun _ => .int 2)) (fd_cons (df_of (de_c fun _ => .int 1)) (fd_cons (df_of (de_c fun _ => .int 3)) fd_nil))))) (fd_cons (df_of (de_tup (fd_cons (df_of (de_c fun _ => .int 1)) fd_nil))) fd_nil))))))))))))) (dg_name (by rfl)))
    (ds_seq (ds_asg (dx_of (de_op (df_of de_var) (df_of (de_lst (fd_cons (df_of (de_tup (fd_cons (df_of (de_c fun _ => .int 2)) fd_nil))) (fd_cons (df_of (de_tup (fd_cons (df_of (de_c fun _ => .int 4)) (fd_cons (df_of (de_c fun _ => .int 3)) (fd_cons (df_of (de_c fun _ => .int 2)) fd_nil))))) fd_nil)))) dc_catL)) (dg_name (by rfl)))
    (ds_ret (dx_of (de_op (df_of de_var) (df_of (de_fn E__law_take.len (da_cons de_var (da_cons (de_c fun _ => .int 13) da_nil)))) dc_ix)))))⟩)
  exact h

end K5

set_option Elab.async false
set_option linter.all false
set_option maxRecDepth 100000
set_option maxHeartbeats 4000000
namespace K5
open PySem PySem.Spec PyProof.Rows L2 Q
theorem ok__law_named {P : Program} {w : World} {K : PySem.W.Frag} {mg : Str → Option Value} {base : Heap} {Z : Zs} {f : Addr} {fd : FuncData} (T : Txt K mg Z w) (F : Fun K "_law_named" "_law_named" s__law_named f fd) (E__law_take : FnE P w K mg base 1 "_law_take" ["_law_pile", "_law_size"] fn__law_take) : FnG P w K mg base 2 f fd ["_law_pile", "_law_word", "_law_shape_here"] (spD K 3 fn__law_named) := by
  have h := fn_ok (P := P) (w := w) (mg := mg) (base := base) (k := 1) (g := b__law_named) (fx := [true, true, true]) F sc__law_named rfl (fun cdv A outer s H E gu hr => by
    have tk := takes_of (X := cxOf (L2.CX P w) P w K mg base N__law_named "_law_named" (defScope s__law_named) f cdv A outer s H E) rfl rfl rfl rfl
    exact ⟨_, (pss_cons (ps_set (i := 3) sc__law_named.nd rfl (Or.inl rfl) (pe_fnE E__law_take (Room.mono hr (by omega)) gu (by rfl) (fun σ => passNo σ) (pa_cons (pv 0) (pa_cons (pe_callB call_len (by rfl) T.b_len (by decide +kernel) (pa_cons (pv 2) pa_nil)) pa_nil))))
    (pss_one (ps_ret (pe_tup (pa_cons (pv 1) (pa_cons (pv 3) (pa_cons (pe_fnE E__law_take (Room.mono hr (by omega)) gu (by rfl) (fun σ => passNo σ) (pa_cons (pv 0) (pa_cons (pe_ix ix_seq (pv 2) (pv 3) (fun _ _ => rfl)) pa_nil))) pa_nil))))))), (ds_seq (ds_asg (dx_of (de_fn E__law_take.len (da_cons de_var (da_cons (de_with (fd_cons (df_of de_var) fd_nil) dc_len) da_nil)))) (dg_name (by rfl)))
    (ds_ret (dx_of (de_tup (fd_cons (df_of de_var) (fd_cons (df_of de_var) (fd_cons (df_of (de_fn E__law_take.len (da_cons de_var (da_cons (de_op (df_of de_var) (df_of de_var) dc_ix) da_nil)))) fd_nil)))))))⟩)
  exact h

end K5

set_option Elab.async false
set_option linter.all false
set_option maxRecDepth 100000
set_option maxHeartbeats 4000000
namespace K5
open PySem PySem.Spec PyProof.Rows L2 Q
theorem ok__law_test {P : Program} {w : World} {K : PySem.W.Frag} {mg : Str → Option Value} {base : Heap} {Z : Zs} {f : Addr} {fd : FuncData} (T : Txt K mg Z w) (F : Fun K "_law_test" "_law_test" s__law_test f fd) (M : Named K mg "_law_test" f fd ["_law_pile", "_law_shape_here", "_law_deep"]) (E__law_take : FnE P w K mg base 1 "_law_take" ["_law_pile", "_law_size"] fn__law_take) (E__law_named : FnE P w K mg base 2 "_law_named" ["_law_pile", "_law_word", "_law_shape_here"] fn__law_named) : ∀ k : Nat, FnG P w K mg base (k + 2) f fd ["_law_pile", "_law_shape_here", "_law_deep"] (spD K 3 (fn__law_test k)) := by
  intro k
  induction k with
  | zero => exact fn_none
  | succ kk ih =>
    have E__law_test : FnE P w K mg base (kk + 2) "_law_test" ["_law_pile", "_law_shape_here", "_law_deep"] (fn__law_test kk) := ⟨⟨f, fd, ih, M.at_, M.keep, M.binds⟩, fl__law_test kk⟩
    have h := fn_ok (P := P) (w := w) (mg := mg) (base := base) (k := kk + 2) (g := b__law_test (fn__law_test kk) kk) (fx := [true, true, true]) F sc__law_test rfl (fun cdv A outer s H E gu hr => by
      have tk := takes_of (X := cxOf (L2.CX P w) P w K mg base N__law_test "_law_test" (defScope s__law_test) f cdv A outer s H E) rfl rfl rfl rfl
      exact ⟨_, (pss_cons (ps_set (i := 3) sc__law_test.nd rfl (Or.inl rfl) (pe_fnE E__law_take (Room.mono hr (by omega)) gu (by rfl) (fun σ => passNo σ) (pa_cons (pv 0) (pa_cons pe_int pa_nil))))
    (pss_cons (ps_if (PW.pt (pw_or (pt_cmpR (op_eqD hr.units) (pv 2) pe_int (nomark _)) (pw_or1 (pt_cmpR op_lt (pv 3) pe_int (nomark _))))) (pss_cons (ps_if (pt_cmpR (op_eqD hr.units) (pv 3) pe_int (nomark _)) (pss_one (ps_ret (pe_ix ix_seq (pe_lst (pa_cons (pe_tup (pa_cons pe_str pa_nil)) (pa_cons (pe_tup (pa_cons pe_str pa_nil)) pa_nil))) (pe_fnE E__law_take (Room.mono hr (by omega)) gu (by rfl) (fun σ => passNo σ) (pa_cons (pv 0) (pa_cons pe_int pa_nil))) (fun _ _ => rfl)))) pss_nil)
    (pss_one (ps_ret (pe_fnE E__law_named (Room.mono hr (by omega)) gu (by rfl) (fun σ => passNo σ) (pa_cons (pv 0) (pa_cons pe_str (pa_cons (pv 1) pa_nil))))))) pss_nil)
    (pss_cons (ps_if (pt_cmpR op_lt (pv 3) pe_int (nomark _)) (pss_one (ps_ret (pe_tup (pa_cons pe_str (pa_cons (pe_fnE E__law_test (Room.mono hr (by omega)) gu (by rfl) (fun σ => passNo σ) (pa_cons (pv 0) (pa_cons (pv 1) (pa_cons (pe_op op_sub (pv 2) pe_int) pa_nil)))) pa_nil))))) pss_nil)
    (pss_cons (ps_set (i := 4) sc__law_test.nd rfl (Or.inl rfl) (pe_fnE E__law_test (Room.mono hr (by omega)) gu (by rfl) (fun σ => passNo σ) (pa_cons (pv 0) (pa_cons (pv 1) (pa_cons (pe_op op_sub (pv 2) pe_int) pa_nil)))))
    (pss_one (ps_ret (pe_tup (pa_cons (pe_ix ix_seq (pe_lst (pa_cons pe_str (pa_cons pe_str pa_nil))) (pe_op op_mod (pv 3) pe_int) (fun _ _ => rfl)) (pa_cons (pv 4) (pa_cons (pe_fnE E__law_test (Room.mono hr (by omega)) gu (by rfl) (fun σ => passNo σ) (pa_cons (pv 0) (pa_cons (pv 1) (pa_cons (pe_op op_sub (pv 2) pe_int) pa_nil)))) pa_nil)))))))))), (ds_seq (ds_asg (dx_of (de_fn E__law_take.len (da_cons de_var (da_cons (de_c fun _ => .int 9) da_nil)))) (dg_name (by rfl)))
    (ds_seq (ds_if (dtx_of (dt_or (dt_test (df_of (de_op (df_of de_var) (df_of (de_c fun _ => .int 0)) dc_eq))) (dt_test (df_of (de_op (df_of de_var) (df_of (de_c fun _ => .int 4)) dc_lt))))) (ds_seq (ds_if (dtx_of (dt_test (df_of (de_op (df_of de_var) (df_of (de_c fun _ => .int 3)) dc_eq)))) (ds_ret (dx_of (de_op (df_of (de_lst (fd_cons (df_of (de_tup (fd_cons (df_of (de_c fun _ => .str "yes")) fd_nil))) (fd_cons (df_of (de_tup (fd_cons (df_of (de_c fun _ => .str "no")) fd_nil))) fd_nil)))) (df_of (de_fn E__law_take.len (da_cons de_var (da_cons (de_c fun _ => .int 2) da_nil)))) dc_ix))) ds_next)
    (ds_ret (dx_of (de_fn E__law_named.len (da_cons de_var (da_cons (de_c fun _ => .str "is") (da_cons de_var da_nil))))))) ds_next)
    (ds_seq (ds_if (dtx_of (dt_test (df_of (de_op (df_of de_var) (df_of (de_c fun _ => .int 6)) dc_lt)))) (ds_ret (dx_of (de_tup (fd_cons (df_of (de_c fun _ => .str "not")) (fd_cons (df_of (de_fn E__law_test.len (da_cons de_var (da_cons de_var (da_cons (de_op (df_of de_var) (df_of (de_c fun _ => .int 1)) dc_sub) da_nil))))) fd_nil))))) ds_next)
    (ds_seq (ds_asg (dx_of (de_fn E__law_test.len (da_cons de_var (da_cons de_var (da_cons (de_op (df_of de_var) (df_of (de_c fun _ => .int 1)) dc_sub) da_nil))))) (dg_name (by rfl)))
    (ds_ret (dx_of (de_tup (fd_cons (df_of (de_op (df_of (de_lst (fd_cons (df_of (de_c fun _ => .str "then")) (fd_cons (df_of (de_c fun _ => .str "either")) fd_nil)))) (df_of (de_op (df_of de_var) (df_of (de_c fun _ => .int 2)) dc_mod)) dc_ix)) (fd_cons (df_of de_var) (fd_cons (df_of (de_fn E__law_test.len (da_cons de_var (da_cons de_var (da_cons (de_op (df_of de_var) (df_of (de_c fun _ => .int 1)) dc_sub) da_nil))))) fd_nil))))))))))⟩)
    exact h.mono (by omega)

end K5

set_option Elab.async false
set_option linter.all false
set_option maxRecDepth 100000
set_option maxHeartbeats 4000000
namespace K5
open PySem PySem.Spec PyProof.Rows L2 Q
theorem ok__law_saying {P : Program} {w : World} {K : PySem.W.Frag} {mg : Str → Option Value} {base : Heap} {Z : Zs} {f : Addr} {fd : FuncData} (T : Txt K mg Z w) (F : Fun K "_law_saying" "_law_saying" s__law_saying f fd) (M : Named K mg "_law_saying" f fd ["_law_pile", "_law_shape_here", "_law_deep", "_law_notes"]) (E__law_take : FnE P w K mg base 1 "_law_take" ["_law_pile", "_law_size"] fn__law_take) (E__law_named : FnE P w K mg base 2 "_law_named" ["_law_pile", "_law_word", "_law_shape_here"] fn__law_named) (E__law_test : ∀ k : Nat, FnE P w K mg base (k + 2) "_law_test" ["_law_pile", "_law_shape_here", "_law_deep"] (fn__law_test k)) : ∀ k : Nat, FnG P w K mg base (k + 2) f fd ["_law_pile", "_law_shape_here", "_law_deep", "_law_notes"] (spD K 4 (fn__law_saying k)) := by
  intro k
  induction k with
  | zero => exact fn_none
  | succ kk ih =>
    have E__law_saying : FnE P w K mg base (kk + 2) "_law_saying" ["_law_pile", "_law_shape_here", "_law_deep", "_law_notes"] (fn__law_saying kk) := ⟨⟨f, fd, ih, M.at_, M.keep, M.binds⟩, fl__law_saying kk⟩
    have h := fn_ok (P := P) (w := w) (mg := mg) (base := base) (k := kk + 2) (g := b__law_saying (fn__law_saying kk) kk) (fx := [true, true, true, true]) F sc__law_saying rfl (fun cdv A outer s H E gu hr => by
      have tk := takes_of (X := cxOf (L2.CX P w) P w K mg base N__law_saying "_law_saying" (defScope s__law_saying) f cdv A outer s H E) rfl rfl rfl rfl
      exact ⟨_, (pss_cons (ps_set (i := 4) sc__law_saying.nd rfl (Or.inl rfl) (pe_fnE E__law_take (Room.mono hr (by omega)) gu (by rfl) (fun σ => passNo σ) (pa_cons (pv 0) (pa_cons pe_int pa_nil))))
    (pss_cons (ps_if (PW.pt (pw_and (pt_cmpR (op_eqD hr.units) (pv 4) pe_int (nomark _)) (pw_and1 (pt_cmpR op_gt (pe_callB call_len (by rfl) T.b_len (by decide +kernel) (pa_cons (pv 3) pa_nil)) pe_int (nomark _))))) (pss_cons (ps_expr (pe_bm0 PySem.F.plainAttrs_list PySem.F.slot_list_pop PySem.F.type_list_pop mt_pop (pv 3)))
    (pss_one (ps_ret (pe_tup (pa_cons pe_str pa_nil))))) pss_nil)
    (pss_cons (ps_if (PW.pt (pw_or (pt_cmpR (op_eqD hr.units) (pv 2) pe_int (nomark _)) (pw_or1 (pt_cmpR op_lt (pv 4) pe_int (nomark _))))) (pss_cons (ps_if (pt_cmpR (op_eqD hr.units) (pv 4) pe_int (nomark _)) (pss_one (ps_ret (pe_ix ix_seq (pe_lst (pa_cons (pe_tup (pa_cons pe_str pa_nil)) (pa_cons (pe_tup (pa_cons pe_str pa_nil)) (pa_cons (pe_tup (pa_cons pe_str pa_nil)) pa_nil)))) (pe_fnE E__law_take (Room.mono hr (by omega)) gu (by rfl) (fun σ => passNo σ) (pa_cons (pv 0) (pa_cons pe_int pa_nil))) (fun _ _ => rfl)))) pss_nil)
    (pss_one (ps_ret (pe_fnE E__law_named (Room.mono hr (by omega)) gu (by rfl) (fun σ => passNo σ) (pa_cons (pv 0) (pa_cons (pe_ix ix_seq (pe_lst (pa_cons pe_str (pa_cons pe_str (pa_cons pe_str pa_nil)))) (pe_op op_mod (pv 4) pe_int) (fun _ _ => rfl)) (pa_cons (pv 1) pa_nil))))))) pss_nil)
    (pss_cons (ps_if (pt_cmpR op_lt (pv 4) pe_int (nomark _)) (pss_one (ps_ret (pe_tup (pa_cons pe_str (pa_cons (pe_fnE (E__law_test kk) (Room.mono hr (by omega)) gu (by rfl) (fun σ => passNo σ) (pa_cons (pv 0) (pa_cons (pv 1) (pa_cons (pe_callB (call_min2 rfl) (by rfl) T.b_min (by decide +kernel) (pa_cons (pe_op op_sub (pv 2) pe_int) (pa_cons pe_int pa_nil))) pa_nil)))) pa_nil))))) pss_nil)
    (pss_cons (ps_if (pt_cmpR op_lt (pv 4) pe_int (nomark _)) (pss_one (ps_ret (pe_tup (pa_cons pe_str (pa_cons (pe_fnE E__law_saying (Room.mono hr (by omega)) gu (by rfl) (fun σ => passNo σ) (pa_cons (pv 0) (pa_cons (pv 1) (pa_cons (pe_op op_sub (pv 2) pe_int) (pa_cons (pv 3) pa_nil))))) pa_nil))))) pss_nil)
    (pss_cons (ps_set (i := 5) sc__law_saying.nd rfl (Or.inl rfl) (pe_fnE E__law_saying (Room.mono hr (by omega)) gu (by rfl) (fun σ => passNo σ) (pa_cons (pv 0) (pa_cons (pv 1) (pa_cons (pe_op op_sub (pv 2) pe_int) (pa_cons (pv 3) pa_nil))))))
    (pss_one (ps_ret (pe_tup (pa_cons (pe_ix ix_seq (pe_lst (pa_cons pe_str (pa_cons pe_str pa_nil))) (pe_op op_mod (pv 4) pe_int) (fun _ _ => rfl)) (pa_cons (pv 5) (pa_cons (pe_fnE E__law_saying (Room.mono hr (by omega)) gu (by rfl) (fun σ => passNo σ) (pa_cons (pv 0) (pa_cons (pv 1) (pa_cons (pe_op op_sub (pv 2) pe_int) (pa_cons (pv 3) pa_nil))))) pa_nil)))))))))))), (ds_seq (ds_asg (dx_of (de_fn E__law_take.len (da_cons de_var (da_cons (de_c fun _ => .int 16) da_nil)))) (dg_name (by rfl)))
    (ds_seq (ds_if (dtx_of (dt_scal (dt_and (dt_test (df_of (de_op (df_of de_var) (df_of (de_c fun _ => .int 0)) dc_eq))) (dt_test (df_of (de_op (df_of (de_of (df_scal (df_of (de_with (fd_cons (df_of de_var) fd_nil) dc_len))))) (df_of (de_c fun _ => .int 0)) dc_gt)))))) (ds_seq (ds_drop (dx_of de_pop))
    (ds_ret (dx_of (de_tup (fd_cons (df_of (de_c fun _ => .str "note")) fd_nil))))) ds_next)
    (ds_seq (ds_if (dtx_of (dt_or (dt_test (df_of (de_op (df_of de_var) (df_of (de_c fun _ => .int 0)) dc_eq))) (dt_test (df_of (de_op (df_of de_var) (df_of (de_c fun _ => .int 5)) dc_lt))))) (ds_seq (ds_if (dtx_of (dt_test (df_of (de_op (df_of de_var) (df_of (de_c fun _ => .int 1)) dc_eq)))) (ds_ret (dx_of (de_op (df_of (de_lst (fd_cons (df_of (de_tup (fd_cons (df_of (de_c fun _ => .str "yes")) fd_nil))) (fd_cons (df_of (de_tup (fd_cons (df_of (de_c fun _ => .str "no")) fd_nil))) (fd_cons (df_of (de_tup (fd_cons (df_of (de_c fun _ => .str "yes")) fd_nil))) fd_nil))))) (df_of (de_fn E__law_take.len (da_cons de_var (da_cons (de_c fun _ => .int 3) da_nil)))) dc_ix))) ds_next)
    (ds_ret (dx_of (de_fn E__law_named.len (da_cons de_var (da_cons (de_op (df_of (de_lst (fd_cons (df_of (de_c fun _ => .str "put")) (fd_cons (df_of (de_c fun _ => .str "is")) (fd_cons (df_of (de_c fun _ => .str "put")) fd_nil))))) (df_of (de_op (df_of de_var) (df_of (de_c fun _ => .int 3)) dc_mod)) dc_ix) (da_cons de_var da_nil))))))) ds_next)
    (ds_seq (ds_if (dtx_of (dt_test (df_of (de_op (df_of de_var) (df_of (de_c fun _ => .int 7)) dc_lt)))) (ds_ret (dx_of (de_tup (fd_cons (df_of (de_c fun _ => .str "not")) (fd_cons (df_of (de_fn (E__law_test kk).len (da_cons de_var (da_cons de_var (da_cons (de_with (fd_cons (df_of (de_op (df_of de_var) (df_of (de_c fun _ => .int 1)) dc_sub)) (fd_cons (df_of (de_c fun _ => .int 2)) fd_nil)) dc_min2) da_nil))))) fd_nil))))) ds_next)
    (ds_seq (ds_if (dtx_of (dt_test (df_of (de_op (df_of de_var) (df_of (de_c fun _ => .int 9)) dc_lt)))) (ds_ret (dx_of (de_tup (fd_cons (df_of (de_c fun _ => .str "again")) (fd_cons (df_of (de_fn E__law_saying.len (da_cons de_var (da_cons de_var (da_cons (de_op (df_of de_var) (df_of (de_c fun _ => .int 1)) dc_sub) (da_cons de_var da_nil)))))) fd_nil))))) ds_next)
    (ds_seq (ds_asg (dx_of (de_fn E__law_saying.len (da_cons de_var (da_cons de_var (da_cons (de_op (df_of de_var) (df_of (de_c fun _ => .int 1)) dc_sub) (da_cons de_var da_nil)))))) (dg_name (by rfl)))
    (ds_ret (dx_of (de_tup (fd_cons (df_of (de_op (df_of (de_lst (fd_cons (df_of (de_c fun _ => .str "then")) (fd_cons (df_of (de_c fun _ => .str "either")) fd_nil)))) (df_of (de_op (df_of de_var) (df_of (de_c fun _ => .int 2)) dc_mod)) dc_ix)) (fd_cons (df_of de_var) (fd_cons (df_of (de_fn E__law_saying.len (da_cons de_var (da_cons de_var (da_cons (de_op (df_of de_var) (df_of (de_c fun _ => .int 1)) dc_sub) (da_cons de_var da_nil)))))) fd_nil))))))))))))⟩)
    exact h.mono (by omega)

end K5

set_option Elab.async false
set_option linter.all false
set_option maxRecDepth 100000
set_option maxHeartbeats 4000000
namespace K5
open PySem PySem.Spec PyProof.Rows L2 Q
theorem ok__law_drawn {P : Program} {w : World} {K : PySem.W.Frag} {mg : Str → Option Value} {base : Heap} {Z : Zs} {f : Addr} {fd : FuncData} (T : Txt K mg Z w) (F : Fun K "_law_drawn" "_law_drawn" s__law_drawn f fd) (E__law_cell : FnE P w K mg base 2 "_law_cell" ["_law_script", "_law_k"] fn__law_cell) (E__law_take : FnE P w K mg base 1 "_law_take" ["_law_pile", "_law_size"] fn__law_take) (E__law_shape : FnE P w K mg base 2 "_law_shape" ["_law_pile"] fn__law_shape) (E__law_saying : FnE P w K mg base (FU + 2) "_law_saying" ["_law_pile", "_law_shape_here", "_law_deep", "_law_notes"] (fn__law_saying FU)) : FnG P w K mg base (FU + 3) f fd ["_law_script", "_law_k", "_law_deep"] (spD K 3 fn__law_drawn) := by
  have h := fn_ok (P := P) (w := w) (mg := mg) (base := base) (k := (FU + 2)) (g := b__law_drawn) (fx := [true, true, true]) F sc__law_drawn rfl (fun cdv A outer s H E gu hr => by
    have tk := takes_of (X := cxOf (L2.CX P w) P w K mg base N__law_drawn "_law_drawn" (defScope s__law_drawn) f cdv A outer s H E) rfl rfl rfl rfl
    exact ⟨_, (pss_cons (ps_set (i := 3) sc__law_drawn.nd rfl (Or.inl rfl) (pe_lst (pa_cons (pe_fnE E__law_cell (Room.mono hr (by omega)) gu (by rfl) (fun σ => passNo σ) (pa_cons (pv 0) (pa_cons (pv 1) pa_nil))) pa_nil)))
    (pss_cons (ps_set (i := 4) sc__law_drawn.nd rfl (Or.inl rfl) (pe_fnE E__law_shape (Room.mono hr (by omega)) gu (by rfl) (fun σ => passNo σ) (pa_cons (pv 3) pa_nil)))
    (pss_cons (ps_set (i := 5) sc__law_drawn.nd rfl (Or.inl rfl) (pe_op op_rep (pe_lst (pa_cons pe_int pa_nil)) (pe_ix ix_seq (pe_lst (pa_cons pe_int (pa_cons pe_int (pa_cons pe_int (pa_cons pe_int pa_nil))))) (pe_fnE E__law_take (Room.mono hr (by omega)) gu (by rfl) (fun σ => passNo σ) (pa_cons (pv 3) (pa_cons pe_int pa_nil))) (fun _ _ => rfl))))
    (pss_one (ps_ret (pe_tup (pa_cons (pv 4) (pa_cons (pe_fnE E__law_saying (Room.mono hr (by omega)) gu (by rfl) (fun σ => passNo σ) (pa_cons (pv 3) (pa_cons (pv 4) (pa_cons (pv 2) (pa_cons (pv 5) pa_nil))))) pa_nil)))))))), (ds_seq (ds_asg (dx_of (de_lst (fd_cons (df_of (de_fn E__law_cell.len (da_cons de_var (da_cons de_var da_nil)))) fd_nil))) (dg_name (by rfl)))
    (ds_seq (ds_asg (dx_of (de_fn E__law_shape.len (da_cons de_var da_nil))) (dg_name (by rfl)))
    (ds_seq (ds_asg (dx_of (de_op (df_of (de_lst (fd_cons (df_of (de_c fun _ => .int 1)) fd_nil))) (df_of (de_op (df_of (de_lst (fd_cons (df_of (de_c fun _ => .int 0)) (fd_cons (df_of (de_c fun _ => .int 1)) (fd_cons (df_of (de_c fun _ => .int 2)) (fd_cons (df_of (de_c fun _ => .int 5)) fd_nil)))))) (df_of (de_fn E__law_take.len (da_cons de_var (da_cons (de_c fun _ => .int 4) da_nil)))) dc_ix)) dc_mulL)) (dg_name (by rfl)))
    (ds_ret (dx_of (de_tup (fd_cons (df_of de_var) (fd_cons (df_of (de_fn E__law_saying.len (da_cons de_var (da_cons de_var (da_cons de_var (da_cons de_var da_nil)))))) fd_nil))))))))⟩)
  exact h

end K5

set_option Elab.async false
set_option linter.all false
set_option maxRecDepth 100000
set_option maxHeartbeats 4000000
namespace K5
open PySem PySem.Spec PyProof.Rows L2 Q
theorem ok__law_due {P : Program} {w : World} {K : PySem.W.Frag} {mg : Str → Option Value} {base : Heap} {Z : Zs} {f : Addr} {fd : FuncData} (T : Txt K mg Z w) (F : Fun K "_law_due" "_law_due" s__law_due f fd) (M : Named K mg "_law_due" f fd ["_law_shape_here", "_law_saying_here"]) : ∀ k : Nat, FnG P w K mg base (k + 0) f fd ["_law_shape_here", "_law_saying_here"] (spD K 2 (fn__law_due k)) := by
  intro k
  induction k with
  | zero => exact fn_none
  | succ kk ih =>
    have E__law_due : FnE P w K mg base (kk + 0) "_law_due" ["_law_shape_here", "_law_saying_here"] (fn__law_due kk) := ⟨⟨f, fd, ih, M.at_, M.keep, M.binds⟩, fl__law_due kk⟩
    have h := fn_ok (P := P) (w := w) (mg := mg) (base := base) (k := kk + 0) (g := b__law_due (fn__law_due kk) kk) (fx := [true, true]) F sc__law_due rfl (fun cdv A outer s H E gu hr => by
      have tk := takes_of (X := cxOf (L2.CX P w) P w K mg base N__law_due "_law_due" (defScope s__law_due) f cdv A outer s H E) rfl rfl rfl rfl
      exact ⟨_, (pss_cons (ps_set (i := 2) sc__law_due.nd rfl (Or.inl rfl) (pe_ix ix_seq (pv 1) pe_int (fun _ _ => rfl)))
    (pss_cons (ps_if (pt_cmpR (op_eqD hr.units) (pv 2) pe_str (nomark _)) (pss_cons (ps_set (i := 3) sc__law_due.nd rfl (Or.inl rfl) (pe_tup (pa_cons pe_str (pa_cons (pe_ix ix_seq (pv 1) pe_int (fun _ _ => rfl)) (pa_cons (pe_op op_sub (pe_ix ix_seq (pv 0) (pe_ix ix_seq (pv 1) pe_int (fun _ _ => rfl)) (fun _ _ => rfl)) pe_int) pa_nil)))))
    (pss_cons (ps_for (passes_of rfl) rfl (pi_range3 (by rfl) T.b_range (pa_cons (pe_op op_sub (pe_ix ix_seq (pv 0) (pe_ix ix_seq (pv 1) pe_int (fun _ _ => rfl)) (fun _ _ => rfl)) pe_int) (pa_cons (pe_un un_neg pe_int) (pa_cons (pe_un un_neg pe_int) pa_nil)))) (pg_name (i := 4) sc__law_due.nd rfl (Or.inl rfl)) (pss_one (ps_set (i := 3) sc__law_due.nd rfl (Or.inl rfl) (pe_tup (pa_cons pe_str (pa_cons (pe_tup (pa_cons pe_str (pa_cons (pe_ix ix_seq (pv 1) pe_int (fun _ _ => rfl)) (pa_cons (pv 4) pa_nil)))) (pa_cons (pv 3) pa_nil)))))))
    (pss_one (ps_ret (pe_tup (pa_cons pe_str (pa_cons (pe_tup (pa_cons pe_str (pa_cons (pe_ix ix_seq (pv 1) pe_int (fun _ _ => rfl)) (pa_cons (pe_ix ix_seq (pv 1) pe_int (fun _ _ => rfl)) pa_nil)))) (pa_cons (pv 3) pa_nil)))))))) pss_nil)
    (pss_cons (ps_if (pt_cmpR (op_eqD hr.units) (pv 2) pe_str (nomark _)) (pss_one (ps_ret (pe_tup (pa_cons pe_str (pa_cons (pe_fnE E__law_due (Room.mono hr (by omega)) gu (by rfl) (fun σ => passNo σ) (pa_cons (pv 0) (pa_cons (pe_ix ix_seq (pv 1) pe_int (fun _ _ => rfl)) pa_nil))) (pa_cons (pe_fnE E__law_due (Room.mono hr (by omega)) gu (by rfl) (fun σ => passNo σ) (pa_cons (pv 0) (pa_cons (pe_ix ix_seq (pv 1) pe_int (fun _ _ => rfl)) pa_nil))) pa_nil)))))) pss_nil)
    (pss_cons (ps_if (pt_cmpR (op_eqD hr.units) (pv 2) pe_str (nomark _)) (pss_one (ps_ret (pe_tup (pa_cons pe_str (pa_cons (pe_fnE E__law_due (Room.mono hr (by omega)) gu (by rfl) (fun σ => passNo σ) (pa_cons (pv 0) (pa_cons (pe_ix ix_seq (pv 1) pe_int (fun _ _ => rfl)) pa_nil))) (pa_cons (pe_fnE E__law_due (Room.mono hr (by omega)) gu (by rfl) (fun σ => passNo σ) (pa_cons (pv 0) (pa_cons (pe_ix ix_seq (pv 1) pe_int (fun _ _ => rfl)) pa_nil))) pa_nil)))))) pss_nil)
    (pss_cons (ps_if (pt_cmpR (op_eqD hr.units) (pv 2) pe_str (nomark _)) (pss_one (ps_ret (pe_tup (pa_cons pe_str (pa_cons (pe_fnE E__law_due (Room.mono hr (by omega)) gu (by rfl) (fun σ => passNo σ) (pa_cons (pv 0) (pa_cons (pe_ix ix_seq (pv 1) pe_int (fun _ _ => rfl)) pa_nil))) pa_nil))))) pss_nil)
    (pss_one (ps_ret (pv 1)))))))), (ds_seq (ds_asg (dx_of (de_op (df_of de_var) (df_of (de_c fun _ => .int 0)) dc_ix)) (dg_name (by rfl)))
    (ds_seq (ds_if (dtx_of (dt_test (df_of (de_op (df_of de_var) (df_of (de_c fun _ => .str "put")) dc_eq)))) (ds_seq (ds_asg (dx_of (de_tup (fd_cons (df_of (de_c fun _ => .str "put")) (fd_cons (df_of (de_op (df_of de_var) (df_of (de_c fun _ => .int 1)) dc_ix)) (fd_cons (df_of (de_op (df_of (de_op (df_of de_var) (df_of (de_op (df_of de_var) (df_of (de_c fun _ => .int 1)) dc_ix)) dc_ix)) (df_of (de_c fun _ => .int 1)) dc_sub)) fd_nil))))) (dg_name (by rfl)))
    (ds_seq (ds_for (di_range3 (fd_cons (df_of (de_op (df_of (de_op (df_of de_var) (df_of (de_op (df_of de_var) (df_of (de_c fun _ => .int 1)) dc_ix)) dc_ix)) (df_of (de_c fun _ => .int 2)) dc_sub)) (fd_cons (df_of (de_un (df_of (de_c fun _ => .int 1)) dc_neg)) (fd_cons (df_of (de_un (df_of (de_c fun _ => .int 1)) dc_neg)) fd_nil)))) (dg_name (by rfl)) (ds_asg (dx_of (de_tup (fd_cons (df_of (de_c fun _ => .str "either")) (fd_cons (df_of (de_tup (fd_cons (df_of (de_c fun _ => .str "put")) (fd_cons (df_of (de_op (df_of de_var) (df_of (de_c fun _ => .int 1)) dc_ix)) (fd_cons (df_of de_var) fd_nil))))) (fd_cons (df_of de_var) fd_nil))))) (dg_name (by rfl))))
    (ds_ret (dx_of (de_tup (fd_cons (df_of (de_c fun _ => .str "then")) (fd_cons (df_of (de_tup (fd_cons (df_of (de_c fun _ => .str "is")) (fd_cons (df_of (de_op (df_of de_var) (df_of (de_c fun _ => .int 1)) dc_ix)) (fd_cons (df_of (de_op (df_of de_var) (df_of (de_c fun _ => .int 2)) dc_ix)) fd_nil))))) (fd_cons (df_of de_var) fd_nil)))))))) ds_next)
    (ds_seq (ds_if (dtx_of (dt_test (df_of (de_op (df_of de_var) (df_of (de_c fun _ => .str "then")) dc_eq)))) (ds_ret (dx_of (de_tup (fd_cons (df_of (de_c fun _ => .str "then")) (fd_cons (df_of (de_fn E__law_due.len (da_cons de_var (da_cons (de_op (df_of de_var) (df_of (de_c fun _ => .int 2)) dc_ix) da_nil)))) (fd_cons (df_of (de_fn E__law_due.len (da_cons de_var (da_cons (de_op (df_of de_var) (df_of (de_c fun _ => .int 1)) dc_ix) da_nil)))) fd_nil)))))) ds_next)
    (ds_seq (ds_if (dtx_of (dt_test (df_of (de_op (df_of de_var) (df_of (de_c fun _ => .str "either")) dc_eq)))) (ds_ret (dx_of (de_tup (fd_cons (df_of (de_c fun _ => .str "either")) (fd_cons (df_of (de_fn E__law_due.len (da_cons de_var (da_cons (de_op (df_of de_var) (df_of (de_c fun _ => .int 1)) dc_ix) da_nil)))) (fd_cons (df_of (de_fn E__law_due.len (da_cons de_var (da_cons (de_op (df_of de_var) (df_of (de_c fun _ => .int 2)) dc_ix) da_nil)))) fd_nil)))))) ds_next)
    (ds_seq (ds_if (dtx_of (dt_test (df_of (de_op (df_of de_var) (df_of (de_c fun _ => .str "again")) dc_eq)))) (ds_ret (dx_of (de_tup (fd_cons (df_of (de_c fun _ => .str "again")) (fd_cons (df_of (de_fn E__law_due.len (da_cons de_var (da_cons (de_op (df_of de_var) (df_of (de_c fun _ => .int 1)) dc_ix) da_nil)))) fd_nil))))) ds_next)
    (ds_ret (dx_of de_var)))))))⟩)
    exact h.mono (by omega)

end K5

set_option Elab.async false
set_option linter.all false
set_option maxRecDepth 100000
set_option maxHeartbeats 4000000
namespace K5
open PySem PySem.Spec PyProof.Rows L2 Q
theorem ok_law {P : Program} {w : World} {K : PySem.W.Frag} {mg : Str → Option Value} {base : Heap} {Z : Zs} {f : Addr} {fd : FuncData} (T : Txt K mg Z w) (F : Fun K "law" "law" s_law f fd) (E_turned_saying : FnE P w K mg base 7 "turned_saying" ["shape", "saying"] (fn_turned_saying Z)) (E__law_drawn : FnE P w K mg base (FU + 3) "_law_drawn" ["_law_script", "_law_k", "_law_deep"] fn__law_drawn) (E__law_due : FnE P w K mg base (FU + 0) "_law_due" ["_law_shape_here", "_law_saying_here"] (fn__law_due FU)) : FnG P w K mg base (FU + 8) f fd ["_law_script"] (spD K 1 (fn_law Z)) := by
  have h := fn_ok (P := P) (w := w) (mg := mg) (base := base) (k := (FU + 7)) (g := b_law Z) (fx := [true]) F sc_law rfl (fun cdv A outer s H E gu hr => by
    have tk := takes_of (X := cxOf (L2.CX P w) P w K mg base N_law "law" (defScope s_law) f cdv A outer s H E) rfl rfl rfl rfl
    exact ⟨_, (pss_cons (ps_set (i := 1) sc_law.nd rfl (Or.inl rfl) (pe_lst (pa_cons (pe_tup (pa_cons (pe_tup (pa_cons pe_int (pa_cons pe_int pa_nil))) (pa_cons (pe_tup (pa_cons pe_str pa_nil)) pa_nil))) (pa_cons (pe_tup (pa_cons (pe_tup (pa_cons pe_int pa_nil)) (pa_cons (pe_tup (pa_cons pe_str (pa_cons pe_int (pa_cons pe_int pa_nil)))) pa_nil))) (pa_cons (pe_tup (pa_cons (pe_tup (pa_cons pe_int pa_nil)) (pa_cons (pe_tup (pa_cons pe_str (pa_cons pe_int (pa_cons pe_int pa_nil)))) pa_nil))) pa_nil)))))
    (pss_cons (ps_for (passes_of rfl) rfl (pi_range1 (by rfl) T.b_range (pa_cons pe_int pa_nil)) (pg_name (i := 2) sc_law.nd rfl (Or.inl rfl)) (pss_one (ps_expr (pe_bm PySem.F.plainAttrs_list PySem.F.slot_list_append PySem.F.type_list_append mt_append (pv 1) (pa_cons (pe_fnE E__law_drawn (Room.mono hr (by omega)) gu (by rfl) (fun σ => passNo σ) (pa_cons (pv 0) (pa_cons (pv 2) (pa_cons pe_int pa_nil)))) pa_nil)))))
    (pss_cons (ps_for (passes_of rfl) rfl (pi_list (pe_op op_cat (pv 1) (pe_slice sl_list (pv 1) po_none (po_some pe_int)))) (pg_tup rfl (pgs_cons (pg_name (i := 3) sc_law.nd rfl (Or.inl rfl)) (pgs_cons (pg_name (i := 4) sc_law.nd rfl (Or.inl rfl)) pgs_nil))) (pss_cons (ps_set (i := 5) sc_law.nd rfl (Or.inl rfl) (pe_callB (call_rep gu hr) (by rfl) T.b_repr (by decide +kernel) (pa_cons (pv 4) pa_nil)))
    (pss_cons (ps_set (i := 6) sc_law.nd rfl (Or.inl rfl) (pe_fnE (E := WE _) E_turned_saying (Room.mono hr (by omega)) gu (by rfl) (fun σ => passAt tk σ) (pa_cons (pv 3) (pa_cons (pv 4) pa_nil))))
    (pss_cons (ps_if (PW.pt (pw_or (pt_cmpR (op_neD hr.units) (pe_callB (call_rep gu hr) (by rfl) T.b_repr (by decide +kernel) (pa_cons (pv 6) pa_nil)) (pe_callB (call_rep gu hr) (by rfl) T.b_repr (by decide +kernel) (pa_cons (pe_fnE E__law_due (Room.mono hr (by omega)) gu (by rfl) (fun σ => passNo σ) (pa_cons (pv 3) (pa_cons (pv 4) pa_nil))) pa_nil)) (nomark _)) (pw_or1 (pt_cmpR (op_neD hr.units) (pe_callB (call_rep gu hr) (by rfl) T.b_repr (by decide +kernel) (pa_cons (pv 4) pa_nil)) (pv 5) (nomark _))))) (pss_one (ps_ret pe_bl)) pss_nil)
    (pss_one (ps_if (pt_cmpR (op_neD hr.units) (pe_callB (call_rep gu hr) (by rfl) T.b_repr (by decide +kernel) (pa_cons (pe_fnE E_turned_saying (Room.mono hr (by omega)) gu (by rfl) (fun σ => passNo σ) (pa_cons (pv 3) (pa_cons (pv 6) pa_nil))) pa_nil)) (pe_callB (call_rep gu hr) (by rfl) T.b_repr (by decide +kernel) (pa_cons (pe_fnE E__law_due (Room.mono hr (by omega)) gu (by rfl) (fun σ => passNo σ) (pa_cons (pv 3) (pa_cons (pv 6) pa_nil))) pa_nil)) (nomark _)) (pss_one (ps_ret pe_bl)) pss_nil))))))
    (pss_one (ps_ret pe_bl))))), (ds_seq (ds_asg (dx_of (de_lst (fd_cons (df_of (de_tup (fd_cons (df_of (de_tup (fd_cons (df_of (de_c fun _ => .int 2)) (fd_cons (df_of (de_c fun _ => .int 2)) fd_nil)))) (fd_cons (df_of (de_tup (fd_cons (df_of (de_c fun _ => .str "note")) fd_nil))) fd_nil)))) (fd_cons (df_of (de_tup (fd_cons (df_of (de_tup (fd_cons (df_of (de_c fun _ => .int 3)) fd_nil))) (fd_cons (df_of (de_tup (fd_cons (df_of (de_c fun _ => .str "put")) (fd_cons (df_of (de_c fun _ => .int 0)) (fd_cons (df_of (de_c fun _ => .int 1)) fd_nil))))) fd_nil)))) (fd_cons (df_of (de_tup (fd_cons (df_of (de_tup (fd_cons (df_of (de_c fun _ => .int 1)) fd_nil))) (fd_cons (df_of (de_tup (fd_cons (df_of (de_c fun _ => .str "put")) (fd_cons (df_of (de_c fun _ => .int 0)) (fd_cons (df_of (de_c fun _ => .int 0)) fd_nil))))) fd_nil)))) fd_nil))))) (dg_name (by rfl)))
    (ds_seq (ds_for (di_range1 (fd_cons (df_of (de_c fun _ => .int 4)) fd_nil)) (dg_name (by rfl)) (ds_drop (dx_of (de_append (dm_of (de_fn E__law_drawn.len (da_cons de_var (da_cons de_var (da_cons (de_c fun _ => .int 4) da_nil)))))))))
    (ds_seq (ds_for (di_list (df_of (de_op (df_of de_var) (df_of (de_sl dsl_lst (df_of de_var) dp_no (dp_at (df_of (de_c fun _ => .int 1))))) dc_catL))) (dg_tup (dgs_cons (dg_name (by rfl)) (dgs_cons (dg_name (by rfl)) dgs_nil))) (ds_seq (ds_asg (dx_of (de_with (fd_cons (df_of de_var) fd_nil) dc_rep)) (dg_name (by rfl)))
    (ds_seq (ds_asg (dx_ucall E_turned_saying.len (da_cons de_var (da_cons de_var da_nil))) (dg_name (by rfl)))
    (ds_seq (ds_if (dtx_of (dt_or (dt_test (df_of (de_op (df_of (de_with (fd_cons (df_of de_var) fd_nil) dc_rep)) (df_of (de_with (fd_cons (df_of (de_fn E__law_due.len (da_cons de_var (da_cons de_var da_nil)))) fd_nil) dc_rep)) dc_ne))) (dt_test (df_of (de_op (df_of (de_with (fd_cons (df_of de_var) fd_nil) dc_rep)) (df_of de_var) dc_ne))))) (ds_ret (dx_of (de_c fun _ => .bl false))) ds_next)
    (ds_if (dtx_of (dt_test (df_of (de_op (df_of (de_with (fd_cons (df_of (de_fn E_turned_saying.len (da_cons de_var (da_cons de_var da_nil)))) fd_nil) dc_rep)) (df_of (de_with (fd_cons (df_of (de_fn E__law_due.len (da_cons de_var (da_cons de_var da_nil)))) fd_nil) dc_rep)) dc_ne)))) (ds_ret (dx_of (de_c fun _ => .bl false))) ds_next)))))
    (ds_ret (dx_of (de_c fun _ => .bl true))))))⟩)
  exact h
end K5

set_option Elab.async false
set_option linter.all false
set_option maxRecDepth 100000
set_option maxHeartbeats 8000000
namespace K5
open PySem PySem.Spec PyProof.Rows L2 Q
/-! ### words -/
inductive Wd where
  | yes | no | note | is | put | thn | eit | aga | nt | oth
  deriving DecidableEq
def wd (w : Str) : Wd := if w == "yes" then .yes else if w == "no" then .no else if w == "note" then .note else if w == "is" then .is else if w == "put" then .put else if w == "then" then .thn else if w == "either" then .eit else if w == "again" then .aga else if w == "not" then .nt else .oth
def lits : List (Str × Wd) := [("yes", .yes), ("no", .no), ("note", .note), ("is", .is), ("put", .put), ("then", .thn), ("either", .eit), ("again", .aga), ("not", .nt)]
theorem lits_ok : (lits.all fun p => wd p.1 == p.2 && lits.all fun q => (p.1 == q.1) == (p.2 == q.2)) = true := by decide +kernel
theorem wd_lit {w l : Str} {x : Wd} (hx : x ≠ .oth) (hm : (l, x) ∈ lits) : (w == l) = decide (wd w = x) := by
  by_cases c : w = l
  · subst c
    have h := List.all_eq_true.mp lits_ok _ hm
    rw [Bool.and_eq_true] at h
    rw [show wd w = x from by simpa using h.1]
    simp
  · have n : (w == l) = false := by simpa using c
    rw [n]
    symm
    rw [decide_eq_false_iff_not]
    intro z
    have key : ∃ p ∈ lits, w = p.1 ∧ p.2 = x := by
      subst z
      unfold wd at hx ⊢
      split at hx
      · exact ⟨("yes", .yes), by decide +kernel, by simpa using ‹(w == "yes") = true›, by simp [*]⟩
      split at hx
      · exact ⟨("no", .no), by decide +kernel, by simpa using ‹(w == "no") = true›, by simp [*]⟩
      split at hx
      · exact ⟨("note", .note), by decide +kernel, by simpa using ‹(w == "note") = true›, by simp [*]⟩
      split at hx
      · exact ⟨("is", .is), by decide +kernel, by simpa using ‹(w == "is") = true›, by simp [*]⟩
      split at hx
      · exact ⟨("put", .put), by decide +kernel, by simpa using ‹(w == "put") = true›, by simp [*]⟩
      split at hx
      · exact ⟨("then", .thn), by decide +kernel, by simpa using ‹(w == "then") = true›, by simp [*]⟩
      split at hx
      · exact ⟨("either", .eit), by decide +kernel, by simpa using ‹(w == "either") = true›, by simp [*]⟩
      split at hx
      · exact ⟨("again", .aga), by decide +kernel, by simpa using ‹(w == "again") = true›, by simp [*]⟩
      split at hx
      · exact ⟨("not", .nt), by decide +kernel, by simpa using ‹(w == "not") = true›, by simp [*]⟩
      · exact absurd rfl hx
    obtain ⟨p, hp, e1, e2⟩ := key
    have h := List.all_eq_true.mp lits_ok _ hp
    rw [Bool.and_eq_true] at h
    have h2 := List.all_eq_true.mp h.2 _ hm
    have : (p.1 == l) = true := by
      have q := beq_iff_eq.mp h2
      dsimp only at q
      rw [q, e2]
      exact beq_self_eq_true x
    exact c (by rw [e1]; simpa using this)
theorem lit_wd {w l : Str} {x : Wd} (hx : x ≠ .oth) (hm : (l, x) ∈ lits) : (l == w) = decide (wd w = x) := by
  rw [← wd_lit hx hm]
  by_cases c : w = l
  · subst c; rfl
  · have : ¬ l = w := fun z => c z.symm
    rw [show (l == w) = false by simpa using this, show (w == l) = false by simpa using c]
theorem e1 (w : Str) : (w == ("yes" : Str)) = decide (wd w = .yes) := wd_lit (by decide) (by decide +kernel)
theorem e2 (w : Str) : (w == ("no" : Str)) = decide (wd w = .no) := wd_lit (by decide) (by decide +kernel)
theorem e3 (w : Str) : (w == ("note" : Str)) = decide (wd w = .note) := wd_lit (by decide) (by decide +kernel)
theorem e4 (w : Str) : (w == ("is" : Str)) = decide (wd w = .is) := wd_lit (by decide) (by decide +kernel)
theorem e5 (w : Str) : (w == ("put" : Str)) = decide (wd w = .put) := wd_lit (by decide) (by decide +kernel)
theorem e6 (w : Str) : (w == ("then" : Str)) = decide (wd w = .thn) := wd_lit (by decide) (by decide +kernel)
theorem e7 (w : Str) : (w == ("either" : Str)) = decide (wd w = .eit) := wd_lit (by decide) (by decide +kernel)
theorem e8 (w : Str) : (w == ("again" : Str)) = decide (wd w = .aga) := wd_lit (by decide) (by decide +kernel)
theorem e9 (w : Str) : (w == ("not" : Str)) = decide (wd w = .nt) := wd_lit (by decide) (by decide +kernel)
theorem f1 (w : Str) : (("yes" : Str) == w) = decide (wd w = .yes) := lit_wd (by decide) (by decide +kernel)
theorem f2 (w : Str) : (("no" : Str) == w) = decide (wd w = .no) := lit_wd (by decide) (by decide +kernel)
theorem f3 (w : Str) : (("note" : Str) == w) = decide (wd w = .note) := lit_wd (by decide) (by decide +kernel)
theorem f4 (w : Str) : (("is" : Str) == w) = decide (wd w = .is) := lit_wd (by decide) (by decide +kernel)
theorem f5 (w : Str) : (("put" : Str) == w) = decide (wd w = .put) := lit_wd (by decide) (by decide +kernel)
theorem f6 (w : Str) : (("then" : Str) == w) = decide (wd w = .thn) := lit_wd (by decide) (by decide +kernel)
theorem f7 (w : Str) : (("either" : Str) == w) = decide (wd w = .eit) := lit_wd (by decide) (by decide +kernel)
theorem f8 (w : Str) : (("again" : Str) == w) = decide (wd w = .aga) := lit_wd (by decide) (by decide +kernel)
theorem f9 (w : Str) : (("not" : Str) == w) = decide (wd w = .nt) := lit_wd (by decide) (by decide +kernel)
/-! ### membership and the table -/
theorem in_fields (w : Str) : gIn false [.str w, .tup (t_FIELD_WORDS.map D.str)] = some (.val (.bl (decide (wd w = .is ∨ wd w = .put)))) := by
  unfold gIn t_FIELD_WORDS
  simp only [D.items, List.map_cons, List.map_nil, Option.bind_some, D.scal, List.all_cons, List.all_nil, Bool.and_self, and_self, if_true, List.any_cons, List.any_nil, D.eqF, f4, f5, Bool.or_false]
  rw [← Bool.decide_or]
  rfl
theorem in_tests (w : Str) : gIn true [.str w, .tup (t_TEST_WORDS.map D.str)] = some (.val (.bl (!decide (wd w = .yes ∨ wd w = .no ∨ wd w = .is ∨ wd w = .thn ∨ wd w = .eit ∨ wd w = .nt)))) := by
  unfold gIn t_TEST_WORDS
  simp only [D.items, List.map_cons, List.map_nil, Option.bind_some, D.scal, List.all_cons, List.all_nil, Bool.and_self, and_self, if_true, List.any_cons, List.any_nil, D.eqF, f1, f2, f4, f6, f7, f9, Bool.or_false, Bool.decide_or]
def wlen : Wd → Option Int
  | .yes => some 1
  | .no => some 1
  | .note => some 1
  | .is => some 3
  | .put => some 3
  | .thn => some 3
  | .eit => some 3
  | .aga => some 2
  | .nt => some 2
  | .oth => none
theorem tab_len (w : Str) : tabD t_LENGTHS w = match wlen (wd w) with
    | some i => .int i
    | none => .non := by
  unfold t_LENGTHS
  simp only [tabD, f1, f2, f3, f4, f5, f6, f7, f8, f9]
  cases wd w <;> rfl
theorem eq_int (a b : Int) : gEq [.int a, .int b] = some (.val (.bl (a == b))) := rfl
theorem ne_int (a b : Int) : gNe [.int a, .int b] = some (.val (.bl (!(a == b)))) := rfl
theorem ne_non (b : Int) : gNe [.non, .int b] = some (.val (.bl true)) := rfl
theorem eq_str {a b : Str} (ha : PyData.strOk a = true) (hb : PyData.strOk b = true) : gEq [.str a, .str b] = some (.val (.bl (a == b))) := by
  show (if SeqAt.shaped (.str a) = true ∧ SeqAt.shaped (.str b) = true then some (Rs.val (.bl (PyData.eqv (.str a) (.str b)))) else none) = _
  simp [SeqAt.shaped, PyData.eqv, PyData.canLay0, PyData.depth, ha, hb]
theorem lits_str : (["yes", "no", "note", "is", "put", "then", "either", "again", "not"] : List Str).all PyData.strOk = true := by decide +kernel
end K5

set_option Elab.async false
set_option linter.all false
set_option maxRecDepth 100000
set_option maxHeartbeats 8000000
namespace K5
open PySem PySem.Spec PyProof.Rows L2 Q
mutual
def lv : D → Bool
  | .non => true
  | .bl _ => true
  | .int _ => true
  | .str x => PyData.strOk x
  | .tup l => lvL l
  | .lst l => lvL l
  | _ => false
def lvL : List D → Bool
  | [] => true
  | d :: l => lv d && lvL l
end
mutual
def dep : D → Nat
  | .tup l => depL l + 1
  | .lst l => depL l + 1
  | _ => 0
def depL : List D → Nat
  | [] => 0
  | d :: l => max (dep d) (depL l)
end
def isNum : D → Bool
  | .int _ => true
  | _ => false
theorem v_is_number {d : D} (h : lv d = true) : fn_is_number [.fz d] = some (.ret (.fz (.bl (isNum d))), [.fz d]) := by
  cases d <;> first | rfl | (simp [lv] at h; done)
def blw (n : Int) : D → Bool
  | .int i => decide (0 ≤ i ∧ i < n)
  | _ => false
theorem v_is_below {d : D} (n : Int) (h : lv d = true) : fn_is_below [.fz d, .fz (.int n)] = some (.ret (.fz (.bl (blw n d))), [.fz d, .fz (.int n)]) := by
  have hn := v_is_number h
  cases d with
  | int i =>
    by_cases c : 0 ≤ i
    · simp [fn_is_below, b_is_below, fnD, dRet, xLift, dBool, dAnd, dOr, dNot, dBl, dSh, dIsi, dVar, share, T.data, D.isi, D.bool, retW, outP, keepP, dSeq, dIf, xbLift, dC, dOp, dWith, fdCons, fdNil, D.items, Rs.w, dChain, gLe, gLt, gGt, gGe, gRI0, gRI, gAdd, gSubI, dAsg, mv, gdName, dDrop, dCallX, dCall, daCons, daNil, pars, back, putBack, resW, dIfE, dNext, dRaise, dItemsT, dItemsL, dFor, dLift, W.tm, dTru, truth, isFz, dAug, gMul1, dScal, dScalT, T.frz, D.scal, dUn, gNeg, gTupD, gLstD, xNot, xBl, gIx, dSl, gSlT, pAt, pNo, dMv, gInt, dInR, hn, isNum, blw, c]
    · simp [fn_is_below, b_is_below, fnD, dRet, xLift, dBool, dAnd, dOr, dNot, dBl, dSh, dIsi, dVar, share, T.data, D.isi, D.bool, retW, outP, keepP, dSeq, dIf, xbLift, dC, dOp, dWith, fdCons, fdNil, D.items, Rs.w, dChain, gLe, gLt, gGt, gGe, gRI0, gRI, gAdd, gSubI, dAsg, mv, gdName, dDrop, dCallX, dCall, daCons, daNil, pars, back, putBack, resW, dIfE, dNext, dRaise, dItemsT, dItemsL, dFor, dLift, W.tm, dTru, truth, isFz, dAug, gMul1, dScal, dScalT, T.frz, D.scal, dUn, gNeg, gTupD, gLstD, xNot, xBl, gIx, dSl, gSlT, pAt, pNo, dMv, gInt, dInR, hn, isNum, blw, c]
  | non => simp [fn_is_below, b_is_below, fnD, dRet, xLift, dBool, dAnd, dOr, dNot, dBl, dSh, dIsi, dVar, share, T.data, D.isi, D.bool, retW, outP, keepP, dSeq, dIf, xbLift, dC, dOp, dWith, fdCons, fdNil, D.items, Rs.w, dChain, gLe, gLt, gGt, gGe, gRI0, gRI, gAdd, gSubI, dAsg, mv, gdName, dDrop, dCallX, dCall, daCons, daNil, pars, back, putBack, resW, dIfE, dNext, dRaise, dItemsT, dItemsL, dFor, dLift, W.tm, dTru, truth, isFz, dAug, gMul1, dScal, dScalT, T.frz, D.scal, dUn, gNeg, gTupD, gLstD, xNot, xBl, gIx, dSl, gSlT, pAt, pNo, dMv, gInt, dInR, hn, isNum, blw]
  | bl b => simp [fn_is_below, b_is_below, fnD, dRet, xLift, dBool, dAnd, dOr, dNot, dBl, dSh, dIsi, dVar, share, T.data, D.isi, D.bool, retW, outP, keepP, dSeq, dIf, xbLift, dC, dOp, dWith, fdCons, fdNil, D.items, Rs.w, dChain, gLe, gLt, gGt, gGe, gRI0, gRI, gAdd, gSubI, dAsg, mv, gdName, dDrop, dCallX, dCall, daCons, daNil, pars, back, putBack, resW, dIfE, dNext, dRaise, dItemsT, dItemsL, dFor, dLift, W.tm, dTru, truth, isFz, dAug, gMul1, dScal, dScalT, T.frz, D.scal, dUn, gNeg, gTupD, gLstD, xNot, xBl, gIx, dSl, gSlT, pAt, pNo, dMv, gInt, dInR, hn, isNum, blw]
  | str b => simp [fn_is_below, b_is_below, fnD, dRet, xLift, dBool, dAnd, dOr, dNot, dBl, dSh, dIsi, dVar, share, T.data, D.isi, D.bool, retW, outP, keepP, dSeq, dIf, xbLift, dC, dOp, dWith, fdCons, fdNil, D.items, Rs.w, dChain, gLe, gLt, gGt, gGe, gRI0, gRI, gAdd, gSubI, dAsg, mv, gdName, dDrop, dCallX, dCall, daCons, daNil, pars, back, putBack, resW, dIfE, dNext, dRaise, dItemsT, dItemsL, dFor, dLift, W.tm, dTru, truth, isFz, dAug, gMul1, dScal, dScalT, T.frz, D.scal, dUn, gNeg, gTupD, gLstD, xNot, xBl, gIx, dSl, gSlT, pAt, pNo, dMv, gInt, dInR, hn, isNum, blw]
  | tup b => simp [fn_is_below, b_is_below, fnD, dRet, xLift, dBool, dAnd, dOr, dNot, dBl, dSh, dIsi, dVar, share, T.data, D.isi, D.bool, retW, outP, keepP, dSeq, dIf, xbLift, dC, dOp, dWith, fdCons, fdNil, D.items, Rs.w, dChain, gLe, gLt, gGt, gGe, gRI0, gRI, gAdd, gSubI, dAsg, mv, gdName, dDrop, dCallX, dCall, daCons, daNil, pars, back, putBack, resW, dIfE, dNext, dRaise, dItemsT, dItemsL, dFor, dLift, W.tm, dTru, truth, isFz, dAug, gMul1, dScal, dScalT, T.frz, D.scal, dUn, gNeg, gTupD, gLstD, xNot, xBl, gIx, dSl, gSlT, pAt, pNo, dMv, gInt, dInR, hn, isNum, blw]
  | lst b => simp [fn_is_below, b_is_below, fnD, dRet, xLift, dBool, dAnd, dOr, dNot, dBl, dSh, dIsi, dVar, share, T.data, D.isi, D.bool, retW, outP, keepP, dSeq, dIf, xbLift, dC, dOp, dWith, fdCons, fdNil, D.items, Rs.w, dChain, gLe, gLt, gGt, gGe, gRI0, gRI, gAdd, gSubI, dAsg, mv, gdName, dDrop, dCallX, dCall, daCons, daNil, pars, back, putBack, resW, dIfE, dNext, dRaise, dItemsT, dItemsL, dFor, dLift, W.tm, dTru, truth, isFz, dAug, gMul1, dScal, dScalT, T.frz, D.scal, dUn, gNeg, gTupD, gLstD, xNot, xBl, gIx, dSl, gSlT, pAt, pNo, dMv, gInt, dInR, hn, isNum, blw]
  | _ => simp [lv] at h
def vOK (sh : List D) : List D → Bool
  | [.int i, b] => decide (0 ≤ i) && (match sh[i.toNat]? with
    | some (.int n) => blw n b
    | _ => false)
  | _ => false
def hpf (sh : List D) : D → Bool
  | .tup (.str w :: l) => match wd w with
    | .yes => l.length == 0
    | .no => l.length == 0
    | .note => l.length == 0
    | .is => vOK sh l
    | .put => vOK sh l
    | .thn => l.length == 2
    | .eit => l.length == 2
    | .aga => l.length == 1
    | .nt => l.length == 1
    | .oth => false
  | _ => false
def shI (sh : List D) : Prop := ∀ x ∈ sh, ∃ n : Int, x = .int n
theorem len_cons (x : D) (l : List D) : gLen [.tup (x :: l)] = some (.val (.int (l.length + 1))) := rfl
theorem len_tup (l : List D) : gLen [.tup l] = some (.val (.int l.length)) := rfl
theorem at0 (x : D) (l : List D) : atI (x :: l) 0 = some x := by simp [atI, ixN]
theorem at1 (x y : D) (l : List D) : atI (x :: y :: l) 1 = some y := by
  have : (1 : Int) < (l.length : Int) + 1 + 1 := by omega
  simp [atI, ixN, this]
theorem at2 (x y z : D) (l : List D) : atI (x :: y :: z :: l) 2 = some z := by
  have : (2 : Int) < (l.length : Int) + 1 + 1 + 1 := by omega
  simp [atI, ixN, this]
theorem atN {l : List D} {i : Int} (h : 0 ≤ i) (h2 : i < l.length) : atI l i = l[i.toNat]? := by
  simp [atI, ixN, h, h2]
theorem hpf_word {sh : List D} {w : Str} {l : List D} (hs : shI sh) (hw : PyData.strOk w = true) (hl : lvL l = true) : fn_has_part_form [.fz (.tup sh), .fz (.tup (.str w :: l))] = some (.ret (.fz (.bl (hpf sh (.tup (.str w :: l))))), [.fz (.tup sh), .fz (.tup (.str w :: l))]) := by
  have n0 : ((l.length : Int) + 1 == 0) = false := by simp; omega
  have key : b_has_part_form [.fz (.tup sh), .fz (.tup (.str w :: l)), .un] = some (.rt (.sh (.bl (hpf sh (.tup (.str w :: l))))) [.fz (.tup sh), .fz (.tup (.str w :: l)), .fz (.str w)]) := by
    by_cases c : wd w = .is ∨ wd w = .put
    · have hl3 : wlen (wd w) = some 3 := by rcases c with c | c <;> rw [c] <;> rfl
      have hh : hpf sh (.tup (.str w :: l)) = vOK sh l := by rcases c with c | c <;> simp [hpf, c]
      rw [hh]
      by_cases c3 : l.length = 2
      · obtain ⟨a, b, rfl⟩ : ∃ a b, l = [a, b] := by
          match l, c3 with
          | [a, b], _ => exact ⟨a, b, rfl⟩
        simp only [lvL, Bool.and_eq_true] at hl
        have ha := v_is_below (sh.length : Int) hl.1
        cases a with
        | int i =>
          by_cases d : 0 ≤ i ∧ i < sh.length
          · have hi : i.toNat < sh.length := by omega
            obtain ⟨n, hn⟩ := hs sh[i.toNat] (List.getElem_mem hi)
            have hb := v_is_below n hl.2.1
            have hat := atN d.1 d.2
            rw [List.getElem?_eq_getElem hi, hn] at hat
            have g : sh[i.toNat]? = some (.int n) := by rw [List.getElem?_eq_getElem hi, hn]
            simp [b_has_part_form, fnD, dRet, xLift, dBool, dAnd, dOr, dNot, dBl, dSh, dIsi, dVar, share, T.data, D.isi, D.bool, retW, outP, keepP, dSeq, dIf, xbLift, dC, dOp, dWith, fdCons, fdNil, D.items, Rs.w, dChain, gLe, gLt, gGt, gGe, gRI0, gRI, gAdd, gSubI, dAsg, mv, gdName, dDrop, dCallX, dCall, daCons, daNil, pars, back, putBack, resW, dIfE, dNext, dRaise, dItemsT, dItemsL, dFor, dLift, W.tm, dTru, truth, isFz, dAug, gMul1, dScal, dScalT, T.frz, D.scal, dUn, gNeg, gTupD, gLstD, xNot, xBl, gIx, dSl, gSlT, pAt, pNo, dMv, gInt, dInR, len_tup, eq_int, ne_int, at0, at1, at2, gKGet, tab_len, hl3, in_fields, c, ha, hb, blw, d, vOK, hat, hi, hn]
          · have v : vOK sh [.int i, b] = false := by
              by_cases d0 : 0 ≤ i
              · have : sh[i.toNat]? = none := List.getElem?_eq_none (by omega)
                simp [vOK, this]
              · simp [vOK, d0]
            simp [b_has_part_form, fnD, dRet, xLift, dBool, dAnd, dOr, dNot, dBl, dSh, dIsi, dVar, share, T.data, D.isi, D.bool, retW, outP, keepP, dSeq, dIf, xbLift, dC, dOp, dWith, fdCons, fdNil, D.items, Rs.w, dChain, gLe, gLt, gGt, gGe, gRI0, gRI, gAdd, gSubI, dAsg, mv, gdName, dDrop, dCallX, dCall, daCons, daNil, pars, back, putBack, resW, dIfE, dNext, dRaise, dItemsT, dItemsL, dFor, dLift, W.tm, dTru, truth, isFz, dAug, gMul1, dScal, dScalT, T.frz, D.scal, dUn, gNeg, gTupD, gLstD, xNot, xBl, gIx, dSl, gSlT, pAt, pNo, dMv, gInt, dInR, len_tup, eq_int, ne_int, at0, at1, at2, gKGet, tab_len, hl3, in_fields, c, ha, blw, d, v]
        | _ => simp [b_has_part_form, fnD, dRet, xLift, dBool, dAnd, dOr, dNot, dBl, dSh, dIsi, dVar, share, T.data, D.isi, D.bool, retW, outP, keepP, dSeq, dIf, xbLift, dC, dOp, dWith, fdCons, fdNil, D.items, Rs.w, dChain, gLe, gLt, gGt, gGe, gRI0, gRI, gAdd, gSubI, dAsg, mv, gdName, dDrop, dCallX, dCall, daCons, daNil, pars, back, putBack, resW, dIfE, dNext, dRaise, dItemsT, dItemsL, dFor, dLift, W.tm, dTru, truth, isFz, dAug, gMul1, dScal, dScalT, T.frz, D.scal, dUn, gNeg, gTupD, gLstD, xNot, xBl, gIx, dSl, gSlT, pAt, pNo, dMv, gInt, dInR, len_tup, eq_int, ne_int, at0, at1, at2, gKGet, tab_len, hl3, in_fields, c, ha, blw, vOK]
      · have n3 : ((3 : Int) == (l.length : Int) + 1) = false := by simp; omega
        have v : vOK sh l = false := by
          unfold vOK
          split
          · simp at c3
          · rfl
        simp [b_has_part_form, fnD, dRet, xLift, dBool, dAnd, dOr, dNot, dBl, dSh, dIsi, dVar, share, T.data, D.isi, D.bool, retW, outP, keepP, dSeq, dIf, xbLift, dC, dOp, dWith, fdCons, fdNil, D.items, Rs.w, dChain, gLe, gLt, gGt, gGe, gRI0, gRI, gAdd, gSubI, dAsg, mv, gdName, dDrop, dCallX, dCall, daCons, daNil, pars, back, putBack, resW, dIfE, dNext, dRaise, dItemsT, dItemsL, dFor, dLift, W.tm, dTru, truth, isFz, dAug, gMul1, dScal, dScalT, T.frz, D.scal, dUn, gNeg, gTupD, gLstD, xNot, xBl, gIx, dSl, gSlT, pAt, pNo, dMv, gInt, dInR, len_cons, eq_int, ne_int, n0, n3, at0, gKGet, tab_len, hl3, v]
    · have cc : decide (wd w = .is ∨ wd w = .put) = false := decide_eq_false c
      cases e : wd w with
      | is => exact absurd (Or.inl e) c
      | put => exact absurd (Or.inr e) c
      | oth => simp [b_has_part_form, fnD, dRet, xLift, dBool, dAnd, dOr, dNot, dBl, dSh, dIsi, dVar, share, T.data, D.isi, D.bool, retW, outP, keepP, dSeq, dIf, xbLift, dC, dOp, dWith, fdCons, fdNil, D.items, Rs.w, dChain, gLe, gLt, gGt, gGe, gRI0, gRI, gAdd, gSubI, dAsg, mv, gdName, dDrop, dCallX, dCall, daCons, daNil, pars, back, putBack, resW, dIfE, dNext, dRaise, dItemsT, dItemsL, dFor, dLift, W.tm, dTru, truth, isFz, dAug, gMul1, dScal, dScalT, T.frz, D.scal, dUn, gNeg, gTupD, gLstD, xNot, xBl, gIx, dSl, gSlT, pAt, pNo, dMv, gInt, dInR, len_cons, eq_int, ne_int, ne_non, n0, at0, gKGet, tab_len, e, wlen, hpf]
      | yes =>
        by_cases c3 : l.length = 0
        · simp [b_has_part_form, fnD, dRet, xLift, dBool, dAnd, dOr, dNot, dBl, dSh, dIsi, dVar, share, T.data, D.isi, D.bool, retW, outP, keepP, dSeq, dIf, xbLift, dC, dOp, dWith, fdCons, fdNil, D.items, Rs.w, dChain, gLe, gLt, gGt, gGe, gRI0, gRI, gAdd, gSubI, dAsg, mv, gdName, dDrop, dCallX, dCall, daCons, daNil, pars, back, putBack, resW, dIfE, dNext, dRaise, dItemsT, dItemsL, dFor, dLift, W.tm, dTru, truth, isFz, dAug, gMul1, dScal, dScalT, T.frz, D.scal, dUn, gNeg, gTupD, gLstD, xNot, xBl, gIx, dSl, gSlT, pAt, pNo, dMv, gInt, dInR, len_cons, eq_int, ne_int, n0, at0, gKGet, tab_len, e, wlen, hpf, c3, in_fields, List.length_eq_zero_iff.mp c3]
        · have n3 : ((1 : Int) == (l.length : Int) + 1) = false := by simp; omega
          have c4 : ¬ l = [] := fun z => c3 (by rw [z]; rfl)
          simp [b_has_part_form, fnD, dRet, xLift, dBool, dAnd, dOr, dNot, dBl, dSh, dIsi, dVar, share, T.data, D.isi, D.bool, retW, outP, keepP, dSeq, dIf, xbLift, dC, dOp, dWith, fdCons, fdNil, D.items, Rs.w, dChain, gLe, gLt, gGt, gGe, gRI0, gRI, gAdd, gSubI, dAsg, mv, gdName, dDrop, dCallX, dCall, daCons, daNil, pars, back, putBack, resW, dIfE, dNext, dRaise, dItemsT, dItemsL, dFor, dLift, W.tm, dTru, truth, isFz, dAug, gMul1, dScal, dScalT, T.frz, D.scal, dUn, gNeg, gTupD, gLstD, xNot, xBl, gIx, dSl, gSlT, pAt, pNo, dMv, gInt, dInR, len_cons, eq_int, ne_int, n0, n3, at0, gKGet, tab_len, e, wlen, hpf, c3, c4]
      | no =>
        by_cases c3 : l.length = 0
        · simp [b_has_part_form, fnD, dRet, xLift, dBool, dAnd, dOr, dNot, dBl, dSh, dIsi, dVar, share, T.data, D.isi, D.bool, retW, outP, keepP, dSeq, dIf, xbLift, dC, dOp, dWith, fdCons, fdNil, D.items, Rs.w, dChain, gLe, gLt, gGt, gGe, gRI0, gRI, gAdd, gSubI, dAsg, mv, gdName, dDrop, dCallX, dCall, daCons, daNil, pars, back, putBack, resW, dIfE, dNext, dRaise, dItemsT, dItemsL, dFor, dLift, W.tm, dTru, truth, isFz, dAug, gMul1, dScal, dScalT, T.frz, D.scal, dUn, gNeg, gTupD, gLstD, xNot, xBl, gIx, dSl, gSlT, pAt, pNo, dMv, gInt, dInR, len_cons, eq_int, ne_int, n0, at0, gKGet, tab_len, e, wlen, hpf, c3, in_fields, List.length_eq_zero_iff.mp c3]
        · have n3 : ((1 : Int) == (l.length : Int) + 1) = false := by simp; omega
          have c4 : ¬ l = [] := fun z => c3 (by rw [z]; rfl)
          simp [b_has_part_form, fnD, dRet, xLift, dBool, dAnd, dOr, dNot, dBl, dSh, dIsi, dVar, share, T.data, D.isi, D.bool, retW, outP, keepP, dSeq, dIf, xbLift, dC, dOp, dWith, fdCons, fdNil, D.items, Rs.w, dChain, gLe, gLt, gGt, gGe, gRI0, gRI, gAdd, gSubI, dAsg, mv, gdName, dDrop, dCallX, dCall, daCons, daNil, pars, back, putBack, resW, dIfE, dNext, dRaise, dItemsT, dItemsL, dFor, dLift, W.tm, dTru, truth, isFz, dAug, gMul1, dScal, dScalT, T.frz, D.scal, dUn, gNeg, gTupD, gLstD, xNot, xBl, gIx, dSl, gSlT, pAt, pNo, dMv, gInt, dInR, len_cons, eq_int, ne_int, n0, n3, at0, gKGet, tab_len, e, wlen, hpf, c3, c4]
      | note =>
        by_cases c3 : l.length = 0
        · simp [b_has_part_form, fnD, dRet, xLift, dBool, dAnd, dOr, dNot, dBl, dSh, dIsi, dVar, share, T.data, D.isi, D.bool, retW, outP, keepP, dSeq, dIf, xbLift, dC, dOp, dWith, fdCons, fdNil, D.items, Rs.w, dChain, gLe, gLt, gGt, gGe, gRI0, gRI, gAdd, gSubI, dAsg, mv, gdName, dDrop, dCallX, dCall, daCons, daNil, pars, back, putBack, resW, dIfE, dNext, dRaise, dItemsT, dItemsL, dFor, dLift, W.tm, dTru, truth, isFz, dAug, gMul1, dScal, dScalT, T.frz, D.scal, dUn, gNeg, gTupD, gLstD, xNot, xBl, gIx, dSl, gSlT, pAt, pNo, dMv, gInt, dInR, len_cons, eq_int, ne_int, n0, at0, gKGet, tab_len, e, wlen, hpf, c3, in_fields, List.length_eq_zero_iff.mp c3]
        · have n3 : ((1 : Int) == (l.length : Int) + 1) = false := by simp; omega
          have c4 : ¬ l = [] := fun z => c3 (by rw [z]; rfl)
          simp [b_has_part_form, fnD, dRet, xLift, dBool, dAnd, dOr, dNot, dBl, dSh, dIsi, dVar, share, T.data, D.isi, D.bool, retW, outP, keepP, dSeq, dIf, xbLift, dC, dOp, dWith, fdCons, fdNil, D.items, Rs.w, dChain, gLe, gLt, gGt, gGe, gRI0, gRI, gAdd, gSubI, dAsg, mv, gdName, dDrop, dCallX, dCall, daCons, daNil, pars, back, putBack, resW, dIfE, dNext, dRaise, dItemsT, dItemsL, dFor, dLift, W.tm, dTru, truth, isFz, dAug, gMul1, dScal, dScalT, T.frz, D.scal, dUn, gNeg, gTupD, gLstD, xNot, xBl, gIx, dSl, gSlT, pAt, pNo, dMv, gInt, dInR, len_cons, eq_int, ne_int, n0, n3, at0, gKGet, tab_len, e, wlen, hpf, c3, c4]
      | thn =>
        by_cases c3 : l.length = 2
        · simp [b_has_part_form, fnD, dRet, xLift, dBool, dAnd, dOr, dNot, dBl, dSh, dIsi, dVar, share, T.data, D.isi, D.bool, retW, outP, keepP, dSeq, dIf, xbLift, dC, dOp, dWith, fdCons, fdNil, D.items, Rs.w, dChain, gLe, gLt, gGt, gGe, gRI0, gRI, gAdd, gSubI, dAsg, mv, gdName, dDrop, dCallX, dCall, daCons, daNil, pars, back, putBack, resW, dIfE, dNext, dRaise, dItemsT, dItemsL, dFor, dLift, W.tm, dTru, truth, isFz, dAug, gMul1, dScal, dScalT, T.frz, D.scal, dUn, gNeg, gTupD, gLstD, xNot, xBl, gIx, dSl, gSlT, pAt, pNo, dMv, gInt, dInR, len_cons, eq_int, ne_int, n0, at0, gKGet, tab_len, e, wlen, hpf, c3, in_fields]
        · have n3 : ((3 : Int) == (l.length : Int) + 1) = false := by simp; omega
          simp [b_has_part_form, fnD, dRet, xLift, dBool, dAnd, dOr, dNot, dBl, dSh, dIsi, dVar, share, T.data, D.isi, D.bool, retW, outP, keepP, dSeq, dIf, xbLift, dC, dOp, dWith, fdCons, fdNil, D.items, Rs.w, dChain, gLe, gLt, gGt, gGe, gRI0, gRI, gAdd, gSubI, dAsg, mv, gdName, dDrop, dCallX, dCall, daCons, daNil, pars, back, putBack, resW, dIfE, dNext, dRaise, dItemsT, dItemsL, dFor, dLift, W.tm, dTru, truth, isFz, dAug, gMul1, dScal, dScalT, T.frz, D.scal, dUn, gNeg, gTupD, gLstD, xNot, xBl, gIx, dSl, gSlT, pAt, pNo, dMv, gInt, dInR, len_cons, eq_int, ne_int, n0, n3, at0, gKGet, tab_len, e, wlen, hpf, c3]
      | eit =>
        by_cases c3 : l.length = 2
        · simp [b_has_part_form, fnD, dRet, xLift, dBool, dAnd, dOr, dNot, dBl, dSh, dIsi, dVar, share, T.data, D.isi, D.bool, retW, outP, keepP, dSeq, dIf, xbLift, dC, dOp, dWith, fdCons, fdNil, D.items, Rs.w, dChain, gLe, gLt, gGt, gGe, gRI0, gRI, gAdd, gSubI, dAsg, mv, gdName, dDrop, dCallX, dCall, daCons, daNil, pars, back, putBack, resW, dIfE, dNext, dRaise, dItemsT, dItemsL, dFor, dLift, W.tm, dTru, truth, isFz, dAug, gMul1, dScal, dScalT, T.frz, D.scal, dUn, gNeg, gTupD, gLstD, xNot, xBl, gIx, dSl, gSlT, pAt, pNo, dMv, gInt, dInR, len_cons, eq_int, ne_int, n0, at0, gKGet, tab_len, e, wlen, hpf, c3, in_fields]
        · have n3 : ((3 : Int) == (l.length : Int) + 1) = false := by simp; omega
          simp [b_has_part_form, fnD, dRet, xLift, dBool, dAnd, dOr, dNot, dBl, dSh, dIsi, dVar, share, T.data, D.isi, D.bool, retW, outP, keepP, dSeq, dIf, xbLift, dC, dOp, dWith, fdCons, fdNil, D.items, Rs.w, dChain, gLe, gLt, gGt, gGe, gRI0, gRI, gAdd, gSubI, dAsg, mv, gdName, dDrop, dCallX, dCall, daCons, daNil, pars, back, putBack, resW, dIfE, dNext, dRaise, dItemsT, dItemsL, dFor, dLift, W.tm, dTru, truth, isFz, dAug, gMul1, dScal, dScalT, T.frz, D.scal, dUn, gNeg, gTupD, gLstD, xNot, xBl, gIx, dSl, gSlT, pAt, pNo, dMv, gInt, dInR, len_cons, eq_int, ne_int, n0, n3, at0, gKGet, tab_len, e, wlen, hpf, c3]
      | aga =>
        by_cases c3 : l.length = 1
        · simp [b_has_part_form, fnD, dRet, xLift, dBool, dAnd, dOr, dNot, dBl, dSh, dIsi, dVar, share, T.data, D.isi, D.bool, retW, outP, keepP, dSeq, dIf, xbLift, dC, dOp, dWith, fdCons, fdNil, D.items, Rs.w, dChain, gLe, gLt, gGt, gGe, gRI0, gRI, gAdd, gSubI, dAsg, mv, gdName, dDrop, dCallX, dCall, daCons, daNil, pars, back, putBack, resW, dIfE, dNext, dRaise, dItemsT, dItemsL, dFor, dLift, W.tm, dTru, truth, isFz, dAug, gMul1, dScal, dScalT, T.frz, D.scal, dUn, gNeg, gTupD, gLstD, xNot, xBl, gIx, dSl, gSlT, pAt, pNo, dMv, gInt, dInR, len_cons, eq_int, ne_int, n0, at0, gKGet, tab_len, e, wlen, hpf, c3, in_fields]
        · have n3 : ((2 : Int) == (l.length : Int) + 1) = false := by simp; omega
          simp [b_has_part_form, fnD, dRet, xLift, dBool, dAnd, dOr, dNot, dBl, dSh, dIsi, dVar, share, T.data, D.isi, D.bool, retW, outP, keepP, dSeq, dIf, xbLift, dC, dOp, dWith, fdCons, fdNil, D.items, Rs.w, dChain, gLe, gLt, gGt, gGe, gRI0, gRI, gAdd, gSubI, dAsg, mv, gdName, dDrop, dCallX, dCall, daCons, daNil, pars, back, putBack, resW, dIfE, dNext, dRaise, dItemsT, dItemsL, dFor, dLift, W.tm, dTru, truth, isFz, dAug, gMul1, dScal, dScalT, T.frz, D.scal, dUn, gNeg, gTupD, gLstD, xNot, xBl, gIx, dSl, gSlT, pAt, pNo, dMv, gInt, dInR, len_cons, eq_int, ne_int, n0, n3, at0, gKGet, tab_len, e, wlen, hpf, c3]
      | nt =>
        by_cases c3 : l.length = 1
        · simp [b_has_part_form, fnD, dRet, xLift, dBool, dAnd, dOr, dNot, dBl, dSh, dIsi, dVar, share, T.data, D.isi, D.bool, retW, outP, keepP, dSeq, dIf, xbLift, dC, dOp, dWith, fdCons, fdNil, D.items, Rs.w, dChain, gLe, gLt, gGt, gGe, gRI0, gRI, gAdd, gSubI, dAsg, mv, gdName, dDrop, dCallX, dCall, daCons, daNil, pars, back, putBack, resW, dIfE, dNext, dRaise, dItemsT, dItemsL, dFor, dLift, W.tm, dTru, truth, isFz, dAug, gMul1, dScal, dScalT, T.frz, D.scal, dUn, gNeg, gTupD, gLstD, xNot, xBl, gIx, dSl, gSlT, pAt, pNo, dMv, gInt, dInR, len_cons, eq_int, ne_int, n0, at0, gKGet, tab_len, e, wlen, hpf, c3, in_fields]
        · have n3 : ((2 : Int) == (l.length : Int) + 1) = false := by simp; omega
          simp [b_has_part_form, fnD, dRet, xLift, dBool, dAnd, dOr, dNot, dBl, dSh, dIsi, dVar, share, T.data, D.isi, D.bool, retW, outP, keepP, dSeq, dIf, xbLift, dC, dOp, dWith, fdCons, fdNil, D.items, Rs.w, dChain, gLe, gLt, gGt, gGe, gRI0, gRI, gAdd, gSubI, dAsg, mv, gdName, dDrop, dCallX, dCall, daCons, daNil, pars, back, putBack, resW, dIfE, dNext, dRaise, dItemsT, dItemsL, dFor, dLift, W.tm, dTru, truth, isFz, dAug, gMul1, dScal, dScalT, T.frz, D.scal, dUn, gNeg, gTupD, gLstD, xNot, xBl, gIx, dSl, gSlT, pAt, pNo, dMv, gInt, dInR, len_cons, eq_int, ne_int, n0, n3, at0, gKGet, tab_len, e, wlen, hpf, c3]
  exact (fn_rt (by rfl) key (by simp)).trans (by simp [outP])
theorem v_has_part_form {sh : List D} {d : D} (hs : shI sh) (h : lv d = true) : fn_has_part_form [.fz (.tup sh), .fz d] = some (.ret (.fz (.bl (hpf sh d))), [.fz (.tup sh), .fz d]) := by
  cases d with
  | tup l =>
    cases l with
    | nil => simp [fn_has_part_form, b_has_part_form, fnD, dRet, xLift, dBool, dAnd, dOr, dNot, dBl, dSh, dIsi, dVar, share, T.data, D.isi, D.bool, retW, outP, keepP, dSeq, dIf, xbLift, dC, dOp, dWith, fdCons, fdNil, D.items, Rs.w, dChain, gLe, gLt, gGt, gGe, gRI0, gRI, gAdd, gSubI, dAsg, mv, gdName, dDrop, dCallX, dCall, daCons, daNil, pars, back, putBack, resW, dIfE, dNext, dRaise, dItemsT, dItemsL, dFor, dLift, W.tm, dTru, truth, isFz, dAug, gMul1, dScal, dScalT, T.frz, D.scal, dUn, gNeg, gTupD, gLstD, xNot, xBl, gIx, dSl, gSlT, pAt, pNo, dMv, gInt, dInR, len_tup, eq_int, hpf]
    | cons x l =>
      have n0 : ((l.length : Int) + 1 == 0) = false := by simp; omega
      simp only [lv, lvL, Bool.and_eq_true] at h
      cases x with
      | str w => exact hpf_word hs (by simpa [lv] using h.1) h.2
      | non => simp [fn_has_part_form, b_has_part_form, fnD, dRet, xLift, dBool, dAnd, dOr, dNot, dBl, dSh, dIsi, dVar, share, T.data, D.isi, D.bool, retW, outP, keepP, dSeq, dIf, xbLift, dC, dOp, dWith, fdCons, fdNil, D.items, Rs.w, dChain, gLe, gLt, gGt, gGe, gRI0, gRI, gAdd, gSubI, dAsg, mv, gdName, dDrop, dCallX, dCall, daCons, daNil, pars, back, putBack, resW, dIfE, dNext, dRaise, dItemsT, dItemsL, dFor, dLift, W.tm, dTru, truth, isFz, dAug, gMul1, dScal, dScalT, T.frz, D.scal, dUn, gNeg, gTupD, gLstD, xNot, xBl, gIx, dSl, gSlT, pAt, pNo, dMv, gInt, dInR, len_cons, eq_int, n0, at0, hpf]
      | bl b => simp [fn_has_part_form, b_has_part_form, fnD, dRet, xLift, dBool, dAnd, dOr, dNot, dBl, dSh, dIsi, dVar, share, T.data, D.isi, D.bool, retW, outP, keepP, dSeq, dIf, xbLift, dC, dOp, dWith, fdCons, fdNil, D.items, Rs.w, dChain, gLe, gLt, gGt, gGe, gRI0, gRI, gAdd, gSubI, dAsg, mv, gdName, dDrop, dCallX, dCall, daCons, daNil, pars, back, putBack, resW, dIfE, dNext, dRaise, dItemsT, dItemsL, dFor, dLift, W.tm, dTru, truth, isFz, dAug, gMul1, dScal, dScalT, T.frz, D.scal, dUn, gNeg, gTupD, gLstD, xNot, xBl, gIx, dSl, gSlT, pAt, pNo, dMv, gInt, dInR, len_cons, eq_int, n0, at0, hpf]
      | int b => simp [fn_has_part_form, b_has_part_form, fnD, dRet, xLift, dBool, dAnd, dOr, dNot, dBl, dSh, dIsi, dVar, share, T.data, D.isi, D.bool, retW, outP, keepP, dSeq, dIf, xbLift, dC, dOp, dWith, fdCons, fdNil, D.items, Rs.w, dChain, gLe, gLt, gGt, gGe, gRI0, gRI, gAdd, gSubI, dAsg, mv, gdName, dDrop, dCallX, dCall, daCons, daNil, pars, back, putBack, resW, dIfE, dNext, dRaise, dItemsT, dItemsL, dFor, dLift, W.tm, dTru, truth, isFz, dAug, gMul1, dScal, dScalT, T.frz, D.scal, dUn, gNeg, gTupD, gLstD, xNot, xBl, gIx, dSl, gSlT, pAt, pNo, dMv, gInt, dInR, len_cons, eq_int, n0, at0, hpf]
      | tup b => simp [fn_has_part_form, b_has_part_form, fnD, dRet, xLift, dBool, dAnd, dOr, dNot, dBl, dSh, dIsi, dVar, share, T.data, D.isi, D.bool, retW, outP, keepP, dSeq, dIf, xbLift, dC, dOp, dWith, fdCons, fdNil, D.items, Rs.w, dChain, gLe, gLt, gGt, gGe, gRI0, gRI, gAdd, gSubI, dAsg, mv, gdName, dDrop, dCallX, dCall, daCons, daNil, pars, back, putBack, resW, dIfE, dNext, dRaise, dItemsT, dItemsL, dFor, dLift, W.tm, dTru, truth, isFz, dAug, gMul1, dScal, dScalT, T.frz, D.scal, dUn, gNeg, gTupD, gLstD, xNot, xBl, gIx, dSl, gSlT, pAt, pNo, dMv, gInt, dInR, len_cons, eq_int, n0, at0, hpf]
      | lst b => simp [fn_has_part_form, b_has_part_form, fnD, dRet, xLift, dBool, dAnd, dOr, dNot, dBl, dSh, dIsi, dVar, share, T.data, D.isi, D.bool, retW, outP, keepP, dSeq, dIf, xbLift, dC, dOp, dWith, fdCons, fdNil, D.items, Rs.w, dChain, gLe, gLt, gGt, gGe, gRI0, gRI, gAdd, gSubI, dAsg, mv, gdName, dDrop, dCallX, dCall, daCons, daNil, pars, back, putBack, resW, dIfE, dNext, dRaise, dItemsT, dItemsL, dFor, dLift, W.tm, dTru, truth, isFz, dAug, gMul1, dScal, dScalT, T.frz, D.scal, dUn, gNeg, gTupD, gLstD, xNot, xBl, gIx, dSl, gSlT, pAt, pNo, dMv, gInt, dInR, len_cons, eq_int, n0, at0, hpf]
      | _ => simp [lv] at h
  | non => simp [fn_has_part_form, b_has_part_form, fnD, dRet, xLift, dBool, dAnd, dOr, dNot, dBl, dSh, dIsi, dVar, share, T.data, D.isi, D.bool, retW, outP, keepP, dSeq, dIf, xbLift, dC, dOp, dWith, fdCons, fdNil, D.items, Rs.w, dChain, gLe, gLt, gGt, gGe, gRI0, gRI, gAdd, gSubI, dAsg, mv, gdName, dDrop, dCallX, dCall, daCons, daNil, pars, back, putBack, resW, dIfE, dNext, dRaise, dItemsT, dItemsL, dFor, dLift, W.tm, dTru, truth, isFz, dAug, gMul1, dScal, dScalT, T.frz, D.scal, dUn, gNeg, gTupD, gLstD, xNot, xBl, gIx, dSl, gSlT, pAt, pNo, dMv, gInt, dInR, hpf]
  | bl b => simp [fn_has_part_form, b_has_part_form, fnD, dRet, xLift, dBool, dAnd, dOr, dNot, dBl, dSh, dIsi, dVar, share, T.data, D.isi, D.bool, retW, outP, keepP, dSeq, dIf, xbLift, dC, dOp, dWith, fdCons, fdNil, D.items, Rs.w, dChain, gLe, gLt, gGt, gGe, gRI0, gRI, gAdd, gSubI, dAsg, mv, gdName, dDrop, dCallX, dCall, daCons, daNil, pars, back, putBack, resW, dIfE, dNext, dRaise, dItemsT, dItemsL, dFor, dLift, W.tm, dTru, truth, isFz, dAug, gMul1, dScal, dScalT, T.frz, D.scal, dUn, gNeg, gTupD, gLstD, xNot, xBl, gIx, dSl, gSlT, pAt, pNo, dMv, gInt, dInR, hpf]
  | int b => simp [fn_has_part_form, b_has_part_form, fnD, dRet, xLift, dBool, dAnd, dOr, dNot, dBl, dSh, dIsi, dVar, share, T.data, D.isi, D.bool, retW, outP, keepP, dSeq, dIf, xbLift, dC, dOp, dWith, fdCons, fdNil, D.items, Rs.w, dChain, gLe, gLt, gGt, gGe, gRI0, gRI, gAdd, gSubI, dAsg, mv, gdName, dDrop, dCallX, dCall, daCons, daNil, pars, back, putBack, resW, dIfE, dNext, dRaise, dItemsT, dItemsL, dFor, dLift, W.tm, dTru, truth, isFz, dAug, gMul1, dScal, dScalT, T.frz, D.scal, dUn, gNeg, gTupD, gLstD, xNot, xBl, gIx, dSl, gSlT, pAt, pNo, dMv, gInt, dInR, hpf]
  | str b => simp [fn_has_part_form, b_has_part_form, fnD, dRet, xLift, dBool, dAnd, dOr, dNot, dBl, dSh, dIsi, dVar, share, T.data, D.isi, D.bool, retW, outP, keepP, dSeq, dIf, xbLift, dC, dOp, dWith, fdCons, fdNil, D.items, Rs.w, dChain, gLe, gLt, gGt, gGe, gRI0, gRI, gAdd, gSubI, dAsg, mv, gdName, dDrop, dCallX, dCall, daCons, daNil, pars, back, putBack, resW, dIfE, dNext, dRaise, dItemsT, dItemsL, dFor, dLift, W.tm, dTru, truth, isFz, dAug, gMul1, dScal, dScalT, T.frz, D.scal, dUn, gNeg, gTupD, gLstD, xNot, xBl, gIx, dSl, gSlT, pAt, pNo, dMv, gInt, dInR, hpf]
  | lst b => simp [fn_has_part_form, b_has_part_form, fnD, dRet, xLift, dBool, dAnd, dOr, dNot, dBl, dSh, dIsi, dVar, share, T.data, D.isi, D.bool, retW, outP, keepP, dSeq, dIf, xbLift, dC, dOp, dWith, fdCons, fdNil, D.items, Rs.w, dChain, gLe, gLt, gGt, gGe, gRI0, gRI, gAdd, gSubI, dAsg, mv, gdName, dDrop, dCallX, dCall, daCons, daNil, pars, back, putBack, resW, dIfE, dNext, dRaise, dItemsT, dItemsL, dFor, dLift, W.tm, dTru, truth, isFz, dAug, gMul1, dScal, dScalT, T.frz, D.scal, dUn, gNeg, gTupD, gLstD, xNot, xBl, gIx, dSl, gSlT, pAt, pNo, dMv, gInt, dInR, hpf]
  | _ => simp [lv] at h
def inn : D → List D
  | .tup (.str w :: l) => if wd w = .is ∨ wd w = .put then [] else l
  | _ => []
theorem cut1 (x : D) (l : List D) : Q.cutD (x :: l) (some 1) none = l := by
  unfold Q.cutD
  rw [show HT.sIx (x :: l).length 0 (some 1) = 1 by simp [HT.sIx], HT.sIx_none]
  simp
theorem v_inner_parts {w : Str} {l : List D} : fn_inner_parts [.fz (.tup (.str w :: l))] = some (.ret (.fz (.tup (inn (.tup (.str w :: l))))), [.fz (.tup (.str w :: l))]) := by
  by_cases c : wd w = .is ∨ wd w = .put
  · simp [fn_inner_parts, b_inner_parts, fnD, dRet, xLift, dBool, dAnd, dOr, dNot, dBl, dSh, dIsi, dVar, share, T.data, D.isi, D.bool, retW, outP, keepP, dSeq, dIf, xbLift, dC, dOp, dWith, fdCons, fdNil, D.items, Rs.w, dChain, gLe, gLt, gGt, gGe, gRI0, gRI, gAdd, gSubI, dAsg, mv, gdName, dDrop, dCallX, dCall, daCons, daNil, pars, back, putBack, resW, dIfE, dNext, dRaise, dItemsT, dItemsL, dFor, dLift, W.tm, dTru, truth, isFz, dAug, gMul1, dScal, dScalT, T.frz, D.scal, dUn, gNeg, gTupD, gLstD, xNot, xBl, gIx, dSl, gSlT, pAt, pNo, dMv, gInt, dInR, at0, in_fields, c, inn]
  · simp [fn_inner_parts, b_inner_parts, fnD, dRet, xLift, dBool, dAnd, dOr, dNot, dBl, dSh, dIsi, dVar, share, T.data, D.isi, D.bool, retW, outP, keepP, dSeq, dIf, xbLift, dC, dOp, dWith, fdCons, fdNil, D.items, Rs.w, dChain, gLe, gLt, gGt, gGe, gRI0, gRI, gAdd, gSubI, dAsg, mv, gdName, dDrop, dCallX, dCall, daCons, daNil, pars, back, putBack, resW, dIfE, dNext, dRaise, dItemsT, dItemsL, dFor, dLift, W.tm, dTru, truth, isFz, dAug, gMul1, dScal, dScalT, T.frz, D.scal, dUn, gNeg, gTupD, gLstD, xNot, xBl, gIx, dSl, gSlT, pAt, pNo, dMv, gInt, dInR, at0, in_fields, c, inn, cut1]
end K5

set_option Elab.async false
set_option linter.all false
set_option maxRecDepth 100000
set_option maxHeartbeats 8000000
namespace K5
open PySem PySem.Spec PyProof.Rows L2 Q
theorem so_is : PyData.strOk ("is" : Str) = true := by decide +kernel
theorem so_not : PyData.strOk ("not" : Str) = true := by decide +kernel
theorem so_note : PyData.strOk ("note" : Str) = true := by decide +kernel
theorem so_put : PyData.strOk ("put" : Str) = true := by decide +kernel
theorem so_again : PyData.strOk ("again" : Str) = true := by decide +kernel
theorem q_is {w : Str} (h : PyData.strOk w = true) : gEq [.str w, .str "is"] = some (.val (.bl (decide (wd w = .is)))) := by rw [eq_str h so_is, e4]
theorem q_not {w : Str} (h : PyData.strOk w = true) : gEq [.str w, .str "not"] = some (.val (.bl (decide (wd w = .nt)))) := by rw [eq_str h so_not, e9]
theorem q_note {w : Str} (h : PyData.strOk w = true) : gEq [.str w, .str "note"] = some (.val (.bl (decide (wd w = .note)))) := by rw [eq_str h so_note, e3]
theorem q_put {w : Str} (h : PyData.strOk w = true) : gEq [.str w, .str "put"] = some (.val (.bl (decide (wd w = .put)))) := by rw [eq_str h so_put, e5]
theorem q_again {w : Str} (h : PyData.strOk w = true) : gEq [.str w, .str "again"] = some (.val (.bl (decide (wd w = .aga)))) := by rw [eq_str h so_again, e8]
end K5

set_option Elab.async false
set_option linter.all false
set_option maxRecDepth 100000
set_option maxHeartbeats 8000000
namespace K5
open PySem PySem.Spec PyProof.Rows L2 Q
mutual
def tst (sh : List D) : D → Bool
  | .tup (.str w :: l) => match wd w with
    | .yes => l.length == 0
    | .no => l.length == 0
    | .is => vOK sh l
    | .thn => l.length == 2 && tstL sh l
    | .eit => l.length == 2 && tstL sh l
    | .nt => l.length == 1 && tstL sh l
    | _ => false
  | _ => false
def tstL (sh : List D) : List D → Bool
  | [] => true
  | d :: l => tst sh d && tstL sh l
end
theorem lv_str {w : Str} (h : lv (.str w) = true) : PyData.strOk w = true := by simpa [lv] using h
theorem all1 (a : Bool) : gAll [.lst [.bl a]] = some (.val (.bl a)) := by simp [gAll, bools, D.bool]
theorem all2 (a b : Bool) : gAll [.lst [.bl a, .bl b]] = some (.val (.bl (a && b))) := by simp [gAll, bools, D.bool]
end K5

set_option Elab.async false
set_option linter.all false
set_option maxRecDepth 100000
set_option maxHeartbeats 8000000
namespace K5
open PySem PySem.Spec PyProof.Rows L2 Q
mutual
def ntd (sh : List D) : D → Int
  | .tup (.str w :: l) => match wd w with
    | .note => if l.length = 0 then 1 else 99
    | .put => if vOK sh l = true then 0 else 99
    | .yes => if tst sh (.tup (.str w :: l)) = true then 0 else 99
    | .no => if tst sh (.tup (.str w :: l)) = true then 0 else 99
    | .is => if tst sh (.tup (.str w :: l)) = true then 0 else 99
    | .nt => if tst sh (.tup (.str w :: l)) = true then 0 else 99
    | .thn => if l.length = 2 then ntdL sh l else 99
    | .eit => if l.length = 2 then ntdL sh l else 99
    | .aga => if l.length = 1 then ntdL sh l else 99
    | .oth => 99
  | _ => 99
def ntdL (sh : List D) : List D → Int
  | [] => 0
  | d :: l => ntd sh d + ntdL sh l
end
end K5

set_option Elab.async false
set_option linter.all false
set_option maxRecDepth 100000
set_option maxHeartbeats 8000000
namespace K5
open PySem PySem.Spec PyProof.Rows L2 Q
/-! ### what the law tells of a thing is what the program goes through -/
def val (sh : List D) : Bool → D → Int
  | true, d => if tst sh d = true then 0 else 99
  | false, d => ntd sh d
def valL (sh : List D) (t : Bool) : List D → Int
  | [] => 0
  | d :: l => val sh t d + valL sh t l
mutual
theorem ntd_pos (sh : List D) : ∀ d : D, 0 ≤ ntd sh d
  | .tup (.str w :: l) => by
    have := ntdL_pos sh l
    unfold ntd
    split <;> (try split) <;> omega
  | .tup [] => by simp [ntd]
  | .tup (.non :: _) => by simp [ntd]
  | .tup (.bl _ :: _) => by simp [ntd]
  | .tup (.int _ :: _) => by simp [ntd]
  | .tup (.tup _ :: _) => by simp [ntd]
  | .tup (.lst _ :: _) => by simp [ntd]
  | .tup (.dk _ _ :: _) => by simp [ntd]
  | .tup (.dt _ _ :: _) => by simp [ntd]
  | .tup (.exc _ :: _) => by simp [ntd]
  | .tup (.scr _ :: _) => by simp [ntd]
  | .tup (.fnc _ :: _) => by simp [ntd]
  | .non => by simp [ntd]
  | .bl _ => by simp [ntd]
  | .int _ => by simp [ntd]
  | .str _ => by simp [ntd]
  | .lst _ => by simp [ntd]
  | .dk _ _ => by simp [ntd]
  | .dt _ _ => by simp [ntd]
  | .exc _ => by simp [ntd]
  | .scr _ => by simp [ntd]
  | .fnc _ => by simp [ntd]
theorem ntdL_pos (sh : List D) : ∀ l : List D, 0 ≤ ntdL sh l
  | [] => by simp [ntdL]
  | d :: l => by
    have := ntd_pos sh d
    have := ntdL_pos sh l
    simp only [ntdL]
    omega
end
theorem val_pos (sh : List D) (t : Bool) (d : D) : 0 ≤ val sh t d := by
  cases t with
  | true => simp only [val]; split <;> omega
  | false => exact ntd_pos sh d
theorem valL_pos (sh : List D) (t : Bool) : ∀ l, 0 ≤ valL sh t l
  | [] => by simp [valL]
  | d :: l => by
    have := val_pos sh t d
    have := valL_pos sh t l
    simp only [valL]
    omega
theorem valL_ntd (sh : List D) : ∀ l, valL sh false l = ntdL sh l
  | [] => by simp [valL, ntdL]
  | d :: l => by simp [valL, ntdL, val, valL_ntd sh l]
theorem valL_tst (sh : List D) : ∀ l, (tstL sh l = true ∧ valL sh true l = 0) ∨ (tstL sh l = false ∧ 99 ≤ valL sh true l)
  | [] => by simp [valL, tstL]
  | d :: l => by
    have h := valL_tst sh l
    have p := valL_pos sh true l
    cases c : tst sh d with
    | true => simp only [valL, tstL, val, c, if_true, Bool.true_and]; simpa using h
    | false => right; simp only [valL, tstL, val, c, Bool.false_and]; exact ⟨trivial, by simp; omega⟩
def inTest (x : Wd) : Bool := decide (x = .yes ∨ x = .no ∨ x = .is ∨ x = .thn ∨ x = .eit ∨ x = .nt)
theorem hpf_no {sh : List D} {t : Bool} {d : D} (h : hpf sh d = false) : 99 ≤ val sh t d := by
  have key : tst sh d = false ∧ 99 ≤ ntd sh d := by
    unfold hpf at h
    split at h
    · rename_i w l
      cases e : wd w <;> rw [e] at h <;> simp_all [tst, ntd]
    · rename_i nw
      constructor
      · unfold tst
        split
        · exact absurd rfl (nw _ _)
        · rfl
      · unfold ntd
        split
        · exact absurd rfl (nw _ _)
        · omega
  cases t with
  | true => simp [val, key.1]
  | false => exact key.2
theorem not_test {sh : List D} {w : Str} {l : List D} (h : inTest (wd w) = false) : 99 ≤ val sh true (.tup (.str w :: l)) := by
  have : tst sh (.tup (.str w :: l)) = false := by
    unfold tst
    cases e : wd w <;> simp_all [inTest]
  simp [val, this]
theorem val_note {sh : List D} {t : Bool} {w : Str} {l : List D} (h : hpf sh (.tup (.str w :: l)) = true) (e : wd w = .note) (ht : t = true → inTest (wd w) = true) : val sh t (.tup (.str w :: l)) = 1 ∧ inn (.tup (.str w :: l)) = [] := by
  have hl : l = [] := by simpa [hpf, e] using h
  subst hl
  cases t with
  | true => have := ht rfl; rw [e] at this; simp [inTest] at this
  | false => simp [val, ntd, inn, e]
theorem val_step {sh : List D} {t : Bool} {w : Str} {l : List D} (h : hpf sh (.tup (.str w :: l)) = true) (e : wd w ≠ .note) (ht : t = true → inTest (wd w) = true) :
    val sh t (.tup (.str w :: l)) = valL sh (t || decide (wd w = .nt)) (inn (.tup (.str w :: l))) ∨ (99 ≤ val sh t (.tup (.str w :: l)) ∧ 99 ≤ valL sh (t || decide (wd w = .nt)) (inn (.tup (.str w :: l)))) := by
  cases t with
  | true =>
    have ht := ht rfl
    have q := valL_tst sh l
    cases z : wd w with
    | note => exact absurd z e
    | put => rw [z] at ht; simp [inTest] at ht
    | aga => rw [z] at ht; simp [inTest] at ht
    | oth => rw [z] at ht; simp [inTest] at ht
    | yes => left; have hl : l = [] := by simpa [hpf, z] using h
             subst hl; simp [val, tst, z, inn, valL]
    | no => left; have hl : l = [] := by simpa [hpf, z] using h
            subst hl; simp [val, tst, z, inn, valL]
    | is => left; have hl : vOK sh l = true := by simpa [hpf, z] using h
            simp [val, tst, z, inn, valL, hl]
    | thn =>
      have hl : l.length = 2 := by simpa [hpf, z] using h
      have i1 : inn (.tup (.str w :: l)) = l := by simp [inn, z]
      rw [i1]
      rcases q with ⟨q1, q2⟩ | ⟨q1, q2⟩
      · left; simp [val, tst, z, hl, q1, q2]
      · right; simp [val, tst, z, hl, q1, q2]
    | eit =>
      have hl : l.length = 2 := by simpa [hpf, z] using h
      have i1 : inn (.tup (.str w :: l)) = l := by simp [inn, z]
      rw [i1]
      rcases q with ⟨q1, q2⟩ | ⟨q1, q2⟩
      · left; simp [val, tst, z, hl, q1, q2]
      · right; simp [val, tst, z, hl, q1, q2]
    | nt =>
      have hl : l.length = 1 := by simpa [hpf, z] using h
      have i1 : inn (.tup (.str w :: l)) = l := by simp [inn, z]
      rw [i1]
      rcases q with ⟨q1, q2⟩ | ⟨q1, q2⟩
      · left; simp [val, tst, z, hl, q1, q2]
      · right; simp [val, tst, z, hl, q1, q2]
  | false =>
    left
    cases z : wd w with
    | note => exact absurd z e
    | put => have hl : vOK sh l = true := by simpa [hpf, z] using h
             simp [val, ntd, z, inn, valL, hl]
    | oth => simp [hpf, z] at h
    | yes => have hl : l = [] := by simpa [hpf, z] using h
             subst hl; simp [val, ntd, tst, z, inn, valL]
    | no => have hl : l = [] := by simpa [hpf, z] using h
            subst hl; simp [val, ntd, tst, z, inn, valL]
    | is => have hl : vOK sh l = true := by simpa [hpf, z] using h
            simp [val, ntd, tst, z, inn, valL, hl]
    | thn => have hl : l.length = 2 := by simpa [hpf, z] using h
             simp [val, ntd, z, hl, inn, valL_ntd]
    | eit => have hl : l.length = 2 := by simpa [hpf, z] using h
             simp [val, ntd, z, hl, inn, valL_ntd]
    | aga => have hl : l.length = 1 := by simpa [hpf, z] using h
             simp [val, ntd, z, hl, inn, valL_ntd]
    | nt =>
      have hl : l.length = 1 := by simpa [hpf, z] using h
      obtain ⟨a, rfl⟩ : ∃ a, l = [a] := by
        match l, hl with
        | [a], _ => exact ⟨a, rfl⟩
      simp [val, ntd, tst, tstL, z, inn, valL]
end K5

set_option Elab.async false
set_option linter.all false
set_option maxRecDepth 100000
set_option maxHeartbeats 8000000
namespace K5
open PySem PySem.Spec PyProof.Rows L2 Q
abbrev pr (p : D × Bool) : T := .fz (.tup [p.1, .bl p.2])
def turnB : SD := (dSeq (dAsg (xLift (dPop 4)) (gdTup 2 (gdCons (gdName 5) (gdCons (gdName 6) gdNil))))
    (dSeq (dIf (xbLift (dNot (dBl (dSh (dCall fn_has_part_form (daCons (dVar 0) (daCons (dVar 5) daNil))))))) (dRet (xLift (dC (.bl false)))) dNext)
    (dSeq (dAsg (xLift (dOp gIx (dSh (dVar 5)) (dSh (dC (.int 0))))) (gdName 7))
    (dSeq (dIf (xbLift (dAnd (dTru (dSh (dVar 6))) (dBl (dSh (dOp (gIn true) (dSh (dVar 7)) (dSh (dC (.tup (t_TEST_WORDS.map D.str))))))))) (dRet (xLift (dC (.bl false)))) dNext)
    (dSeq (dIf (xbLift (dBl (dSh (dOp gEq (dSh (dVar 7)) (dSh (dC (.str "note"))))))) (dAug 3 gAdd (dSh (dC (.int 1)))) dNext)
    (dSeq (dIf (xbLift (dBl (dSh (dOp gGt (dSh (dVar 3)) (dSh (dC (.int 5))))))) (dRet (xLift (dC (.bl false)))) dNext)
    (dFor (dItemsT (dSh (dCall fn_inner_parts (daCons (dVar 5) daNil)))) (gdName 8) (dDrop (xLift (dAppend 4 (dMv (dWith (fdCons (dSh (dVar 8)) (fdCons (dSh (dBool (dOr (dBl (dSh (dVar 6))) (dBl (dSh (dOp gEq (dSh (dVar 7)) (dSh (dC (.str "not"))))))))) fdNil)) gTupD))))))))))))
theorem call_hpf {sh d : D} {b : Bool} {r : List T} {a2 a3 a4 a6 a7 a8 : T} (h : fn_has_part_form [.fz sh, .fz d] = some (.ret (.fz (.bl b)), [.fz sh, .fz d])) : dCall fn_has_part_form (daCons (dVar 0) (daCons (dVar 5) daNil)) [.fz sh, a2, a3, a4, a6, .fz d, a7, a8, r.headD .un] = some (.sh (.bl b), [.fz sh, a2, a3, a4, a6, .fz d, a7, a8, r.headD .un]) := by
  simp [dCall, daCons, daNil, dVar, pars, h, resW, back, putBack]
theorem loop_app {sh d : D} {t : Bool} {w : Str} {th as n x8 : T} (hw : PyData.strOk w = true) : ∀ (l : List D) (V0 : List T), V0.length + l.length < 1000000 → ∃ y8, loopD (gdName 8) (dDrop (xLift (dAppend 4 (dMv (dWith (fdCons (dSh (dVar 8)) (fdCons (dSh (dBool (dOr (dBl (dSh (dVar 6))) (dBl (dSh (dOp gEq (dSh (dVar 7)) (dSh (dC (.str "not"))))))))) fdNil)) gTupD))))) l [.fz sh, th, as, n, .ls V0, .fz d, .fz (.bl t), .fz (.str w), x8] = some (.nx [.fz sh, th, as, n, .ls (V0 ++ l.map fun a => pr (a, t || decide (wd w = .nt))), .fz d, .fz (.bl t), .fz (.str w), y8])
  := by
  intro l
  induction l generalizing x8 with
  | nil => intro V0 _; exact ⟨x8, by simp [loopD]⟩
  | cons a l ih =>
    intro V0 hb
    have c : V0.length < 1000000 := by simp at hb; omega
    obtain ⟨y8, h⟩ := ih (x8 := .fz a) (V0 ++ [pr (a, t || decide (wd w = .nt))]) (by simp at hb ⊢; omega)
    refine ⟨y8, ?_⟩
    have st : (dDrop (xLift (dAppend 4 (dMv (dWith (fdCons (dSh (dVar 8)) (fdCons (dSh (dBool (dOr (dBl (dSh (dVar 6))) (dBl (dSh (dOp gEq (dSh (dVar 7)) (dSh (dC (.str "not"))))))))) fdNil)) gTupD))))) [.fz sh, th, as, n, .ls V0, .fz d, .fz (.bl t), .fz (.str w), .fz a] = some (.nx [.fz sh, th, as, n, .ls (V0 ++ [pr (a, t || decide (wd w = .nt))]), .fz d, .fz (.bl t), .fz (.str w), .fz a]) := by
      cases t <;> simp [fnD, dRet, xLift, dBool, dAnd, dOr, dNot, dBl, dSh, dIsi, dVar, share, T.data, D.isi, D.bool, retW, outP, keepP, dSeq, dIf, xbLift, dC, dOp, dWith, fdCons, fdNil, D.items, Rs.w, dChain, gLe, gLt, gGt, gGe, gRI0, gRI, gAdd, gSubI, dAsg, mv, gdName, dDrop, dCallX, dCall, daCons, daNil, pars, back, putBack, resW, dIfE, dNext, dRaise, dItemsT, dItemsL, dFor, dLift, W.tm, dTru, truth, isFz, dAug, gMul1, dScal, dScalT, T.frz, D.scal, dUn, gNeg, gTupD, gLstD, xNot, xBl, gIx, dSl, gSlT, pAt, pNo, dMv, gInt, dInR, dAppend, isLs, q_not hw, c, pr]
    simp only [loopD, gdName, List.set_cons_succ, List.set_cons_zero, Option.bind_some]
    rw [st]
    simp only [Option.bind_some]
    rw [h]
    simp
theorem turn {sh : List D} {d : D} {t : Bool} {V0 : List T} {n : Int} {th as x5 x6 x7 x8 : T} (hs : shI sh) (hd : lv d = true) (hb : V0.length + d.size < 1000000) :
    (hpf sh d = false ∧ ∃ r, turnB [.fz (.tup sh), th, as, .fz (.int n), .ls (V0 ++ [pr (d, t)]), x5, x6, x7, x8] = some (.rt (.sh (.bl false)) r) ∧ ∃ a b c e f g, r = [.fz (.tup sh), th, as, a, b, c, e, f, g]) ∨
    (hpf sh d = true ∧ ∃ w l, d = .tup (.str w :: l) ∧ (
      ((t = true ∧ inTest (wd w) = false) ∧ ∃ r, turnB [.fz (.tup sh), th, as, .fz (.int n), .ls (V0 ++ [pr (d, t)]), x5, x6, x7, x8] = some (.rt (.sh (.bl false)) r) ∧ ∃ a b c e f g, r = [.fz (.tup sh), th, as, a, b, c, e, f, g]) ∨
      ((t = true → inTest (wd w) = true) ∧ (if wd w = .note then n + 1 else n) > 5 ∧ ∃ r, turnB [.fz (.tup sh), th, as, .fz (.int n), .ls (V0 ++ [pr (d, t)]), x5, x6, x7, x8] = some (.rt (.sh (.bl false)) r) ∧ ∃ a b c e f g, r = [.fz (.tup sh), th, as, a, b, c, e, f, g]) ∨
      ((t = true → inTest (wd w) = true) ∧ ¬ (if wd w = .note then n + 1 else n) > 5 ∧ ∃ y8, turnB [.fz (.tup sh), th, as, .fz (.int n), .ls (V0 ++ [pr (d, t)]), x5, x6, x7, x8] = some (.nx [.fz (.tup sh), th, as, .fz (.int (if wd w = .note then n + 1 else n)), .ls (V0 ++ (inn d).map fun a => pr (a, t || decide (wd w = .nt))), .fz d, .fz (.bl t), .fz (.str w), y8])))) := by
  have hv := v_has_part_form hs hd
  have s1 : dAsg (xLift (dPop 4)) (gdTup 2 (gdCons (gdName 5) (gdCons (gdName 6) gdNil))) [.fz (.tup sh), th, as, .fz (.int n), .ls (V0 ++ [pr (d, t)]), x5, x6, x7, x8] = some (.nx [.fz (.tup sh), th, as, .fz (.int n), .ls V0, .fz d, .fz (.bl t), x7, x8]) := by
    simp [dAsg, xLift, dPop, pr, resW, mv, share, gdTup, T.tupParts, gdCons, gdName, gdNil]
  cases ch : hpf sh d with
  | false =>
    left
    rw [ch] at hv
    refine ⟨rfl, [.fz (.tup sh), th, as, .fz (.int n), .ls V0, .fz d, .fz (.bl t), x7, x8], ?_, _, _, _, _, _, _, rfl⟩
    unfold turnB
    rw [seq_nx s1]
    exact seq_rt (by simp [dIf, xbLift, dNot, dBl, dSh, dCall, daCons, daNil, dVar, pars, hv, resW, back, putBack, share, D.bool, dRet, xLift, dC])
  | true =>
    right
    rw [ch] at hv
    refine ⟨rfl, ?_⟩
    obtain ⟨w, l, rfl⟩ : ∃ w l, d = .tup (.str w :: l) := by
      unfold hpf at ch
      split at ch
      · exact ⟨_, _, rfl⟩
      · cases ch
    refine ⟨w, l, rfl, ?_⟩
    have hw : PyData.strOk w = true := by simp only [lv, lvL, Bool.and_eq_true] at hd; exact lv_str hd.1
    have s2 : (dIf (xbLift (dNot (dBl (dSh (dCall fn_has_part_form (daCons (dVar 0) (daCons (dVar 5) daNil))))))) (dRet (xLift (dC (.bl false)))) dNext) [.fz (.tup sh), th, as, .fz (.int n), .ls V0, .fz (.tup (.str w :: l)), .fz (.bl t), x7, x8] = some (.nx [.fz (.tup sh), th, as, .fz (.int n), .ls V0, .fz (.tup (.str w :: l)), .fz (.bl t), x7, x8]) := by
      simp [dIf, xbLift, dNot, dBl, dSh, dCall, daCons, daNil, dVar, pars, hv, resW, back, putBack, share, D.bool, dNext]
    have s3 : (dAsg (xLift (dOp gIx (dSh (dVar 5)) (dSh (dC (.int 0))))) (gdName 7)) [.fz (.tup sh), th, as, .fz (.int n), .ls V0, .fz (.tup (.str w :: l)), .fz (.bl t), x7, x8] = some (.nx [.fz (.tup sh), th, as, .fz (.int n), .ls V0, .fz (.tup (.str w :: l)), .fz (.bl t), .fz (.str w), x8]) := by
      simp [fnD, dRet, xLift, dBool, dAnd, dOr, dNot, dBl, dSh, dIsi, dVar, share, T.data, D.isi, D.bool, retW, outP, keepP, dSeq, dIf, xbLift, dC, dOp, dWith, fdCons, fdNil, D.items, Rs.w, dChain, gLe, gLt, gGt, gGe, gRI0, gRI, gAdd, gSubI, dAsg, mv, gdName, dDrop, dCallX, dCall, daCons, daNil, pars, back, putBack, resW, dIfE, dNext, dRaise, dItemsT, dItemsL, dFor, dLift, W.tm, dTru, truth, isFz, dAug, gMul1, dScal, dScalT, T.frz, D.scal, dUn, gNeg, gTupD, gLstD, xNot, xBl, gIx, dSl, gSlT, pAt, pNo, dMv, gInt, dInR, at0]
    have s4 : (dIf (xbLift (dAnd (dTru (dSh (dVar 6))) (dBl (dSh (dOp (gIn true) (dSh (dVar 7)) (dSh (dC (.tup (t_TEST_WORDS.map D.str))))))))) (dRet (xLift (dC (.bl false)))) dNext) [.fz (.tup sh), th, as, .fz (.int n), .ls V0, .fz (.tup (.str w :: l)), .fz (.bl t), .fz (.str w), x8] = if t = true ∧ inTest (wd w) = false then some (.rt (.sh (.bl false)) [.fz (.tup sh), th, as, .fz (.int n), .ls V0, .fz (.tup (.str w :: l)), .fz (.bl t), .fz (.str w), x8]) else some (.nx [.fz (.tup sh), th, as, .fz (.int n), .ls V0, .fz (.tup (.str w :: l)), .fz (.bl t), .fz (.str w), x8]) := by
      have it : gIn true [.str w, .tup (t_TEST_WORDS.map D.str)] = some (.val (.bl (!inTest (wd w)))) := in_tests w
      cases t with
      | false => simp [fnD, dRet, xLift, dBool, dAnd, dOr, dNot, dBl, dSh, dIsi, dVar, share, T.data, D.isi, D.bool, retW, outP, keepP, dSeq, dIf, xbLift, dC, dOp, dWith, fdCons, fdNil, D.items, Rs.w, dChain, gLe, gLt, gGt, gGe, gRI0, gRI, gAdd, gSubI, dAsg, mv, gdName, dDrop, dCallX, dCall, daCons, daNil, pars, back, putBack, resW, dIfE, dNext, dRaise, dItemsT, dItemsL, dFor, dLift, W.tm, dTru, truth, isFz, dAug, gMul1, dScal, dScalT, T.frz, D.scal, dUn, gNeg, gTupD, gLstD, xNot, xBl, gIx, dSl, gSlT, pAt, pNo, dMv, gInt, dInR]
      | true => cases z : inTest (wd w) <;> rw [z] at it <;> simp [fnD, dRet, xLift, dBool, dAnd, dOr, dNot, dBl, dSh, dIsi, dVar, share, T.data, D.isi, D.bool, retW, outP, keepP, dSeq, dIf, xbLift, dC, dOp, dWith, fdCons, fdNil, D.items, Rs.w, dChain, gLe, gLt, gGt, gGe, gRI0, gRI, gAdd, gSubI, dAsg, mv, gdName, dDrop, dCallX, dCall, daCons, daNil, pars, back, putBack, resW, dIfE, dNext, dRaise, dItemsT, dItemsL, dFor, dLift, W.tm, dTru, truth, isFz, dAug, gMul1, dScal, dScalT, T.frz, D.scal, dUn, gNeg, gTupD, gLstD, xNot, xBl, gIx, dSl, gSlT, pAt, pNo, dMv, gInt, dInR, it]
    by_cases c1 : t = true ∧ inTest (wd w) = false
    · left
      refine ⟨c1, [.fz (.tup sh), th, as, .fz (.int n), .ls V0, .fz (.tup (.str w :: l)), .fz (.bl t), .fz (.str w), x8], ?_, _, _, _, _, _, _, rfl⟩
      unfold turnB
      rw [seq_nx s1, seq_nx s2, seq_nx s3]
      rw [if_pos c1] at s4
      exact seq_rt s4
    · right
      rw [if_neg c1] at s4
      have c1' : t = true → inTest (wd w) = true := fun z => by
        cases q : inTest (wd w) with
        | true => rfl
        | false => exact absurd ⟨z, q⟩ c1
      have s5 : (dIf (xbLift (dBl (dSh (dOp gEq (dSh (dVar 7)) (dSh (dC (.str "note"))))))) (dAug 3 gAdd (dSh (dC (.int 1)))) dNext) [.fz (.tup sh), th, as, .fz (.int n), .ls V0, .fz (.tup (.str w :: l)), .fz (.bl t), .fz (.str w), x8] = some (.nx [.fz (.tup sh), th, as, .fz (.int (if wd w = .note then n + 1 else n)), .ls V0, .fz (.tup (.str w :: l)), .fz (.bl t), .fz (.str w), x8]) := by
        by_cases z : wd w = .note <;> simp [fnD, dRet, xLift, dBool, dAnd, dOr, dNot, dBl, dSh, dIsi, dVar, share, T.data, D.isi, D.bool, retW, outP, keepP, dSeq, dIf, xbLift, dC, dOp, dWith, fdCons, fdNil, D.items, Rs.w, dChain, gLe, gLt, gGt, gGe, gRI0, gRI, gAdd, gSubI, dAsg, mv, gdName, dDrop, dCallX, dCall, daCons, daNil, pars, back, putBack, resW, dIfE, dNext, dRaise, dItemsT, dItemsL, dFor, dLift, W.tm, dTru, truth, isFz, dAug, gMul1, dScal, dScalT, T.frz, D.scal, dUn, gNeg, gTupD, gLstD, xNot, xBl, gIx, dSl, gSlT, pAt, pNo, dMv, gInt, dInR, q_note hw, z]
      generalize hm : (if wd w = .note then n + 1 else n) = m at s5 ⊢
      by_cases c2 : m > 5
      · left
        refine ⟨c1', c2, [.fz (.tup sh), th, as, .fz (.int m), .ls V0, .fz (.tup (.str w :: l)), .fz (.bl t), .fz (.str w), x8], ?_, _, _, _, _, _, _, rfl⟩
        unfold turnB
        rw [seq_nx s1, seq_nx s2, seq_nx s3, seq_nx s4, seq_nx s5]
        have c2' : (5 : Int) < m := c2
        exact seq_rt (by simp [fnD, dRet, xLift, dBool, dAnd, dOr, dNot, dBl, dSh, dIsi, dVar, share, T.data, D.isi, D.bool, retW, outP, keepP, dSeq, dIf, xbLift, dC, dOp, dWith, fdCons, fdNil, D.items, Rs.w, dChain, gLe, gLt, gGt, gGe, gRI0, gRI, gAdd, gSubI, dAsg, mv, gdName, dDrop, dCallX, dCall, daCons, daNil, pars, back, putBack, resW, dIfE, dNext, dRaise, dItemsT, dItemsL, dFor, dLift, W.tm, dTru, truth, isFz, dAug, gMul1, dScal, dScalT, T.frz, D.scal, dUn, gNeg, gTupD, gLstD, xNot, xBl, gIx, dSl, gSlT, pAt, pNo, dMv, gInt, dInR, c2'])
      · right
        have c2' : ¬ (5 : Int) < m := c2
        have il : (inn (.tup (.str w :: l))).length ≤ l.length := by
          simp only [inn]
          split <;> simp
        have sz : l.length + 1 ≤ (D.tup (.str w :: l)).size := by
          have key : ∀ q : List D, q.length ≤ sizeL q := by
            intro q
            induction q with
            | nil => simp
            | cons a q ih =>
              have : 1 ≤ a.size := by cases a <;> simp [D.size]
              simp only [List.length_cons, sizeL]
              omega
          have := key l
          simp only [D.size, sizeL]
          omega
        obtain ⟨y8, h8⟩ := loop_app (sh := .tup sh) (d := .tup (.str w :: l)) (t := t) (w := w) (th := th) (as := as) (n := .fz (.int m)) (x8 := x8) hw (inn (.tup (.str w :: l))) V0 (by omega)
        refine ⟨c1', c2, y8, ?_⟩
        unfold turnB
        rw [seq_nx s1, seq_nx s2, seq_nx s3, seq_nx s4, seq_nx s5]
        rw [seq_nx (r1 := [.fz (.tup sh), th, as, .fz (.int m), .ls V0, .fz (.tup (.str w :: l)), .fz (.bl t), .fz (.str w), x8]) (by simp [fnD, dRet, xLift, dBool, dAnd, dOr, dNot, dBl, dSh, dIsi, dVar, share, T.data, D.isi, D.bool, retW, outP, keepP, dSeq, dIf, xbLift, dC, dOp, dWith, fdCons, fdNil, D.items, Rs.w, dChain, gLe, gLt, gGt, gGe, gRI0, gRI, gAdd, gSubI, dAsg, mv, gdName, dDrop, dCallX, dCall, daCons, daNil, pars, back, putBack, resW, dIfE, dNext, dRaise, dItemsT, dItemsL, dFor, dLift, W.tm, dTru, truth, isFz, dAug, gMul1, dScal, dScalT, T.frz, D.scal, dUn, gNeg, gTupD, gLstD, xNot, xBl, gIx, dSl, gSlT, pAt, pNo, dMv, gInt, dInR, c2'])]
        refine for_nx (l := inn (.tup (.str w :: l))) (r1 := [.fz (.tup sh), th, as, .fz (.int m), .ls V0, .fz (.tup (.str w :: l)), .fz (.bl t), .fz (.str w), x8]) ?_ h8
        simp [dItemsT, dSh, dCall, daCons, daNil, dVar, pars, v_inner_parts, resW, back, putBack, share]
end K5

set_option Elab.async false
set_option linter.all false
set_option maxRecDepth 100000
set_option maxHeartbeats 8000000
namespace K5
open PySem PySem.Spec PyProof.Rows L2 Q
def sizeW : List (D × Bool) → Nat
  | [] => 0
  | p :: l => p.1.size + sizeW l
def totW (sh : List D) : List (D × Bool) → Int
  | [] => 0
  | p :: l => val sh p.2 p.1 + totW sh l
theorem sizeW_app : ∀ a b, sizeW (a ++ b) = sizeW a + sizeW b
  | [], b => by simp [sizeW]
  | p :: a, b => by simp [sizeW, sizeW_app a b]; omega
theorem totW_app (sh : List D) : ∀ a b, totW sh (a ++ b) = totW sh a + totW sh b
  | [], b => by simp [totW]
  | p :: a, b => by simp [totW, totW_app sh a b]; omega
theorem totW_pos (sh : List D) : ∀ a, 0 ≤ totW sh a
  | [] => by simp [totW]
  | p :: a => by
    have := totW_pos sh a
    have := val_pos sh p.2 p.1
    simp only [totW]
    omega
theorem sizeW_map (t : Bool) : ∀ l : List D, sizeW (l.map fun a => (a, t)) = sizeL l
  | [] => rfl
  | a :: l => by simp [sizeW, sizeL, sizeW_map t l]
theorem totW_map (sh : List D) (t : Bool) : ∀ l : List D, totW sh (l.map fun a => (a, t)) = valL sh t l
  | [] => rfl
  | a :: l => by simp [totW, valL, totW_map sh t l]
theorem size_pos (d : D) : 1 ≤ d.size := by cases d <;> simp [D.size]
theorem sizeW_len : ∀ l : List (D × Bool), l.length ≤ sizeW l
  | [] => by simp [sizeW]
  | p :: l => by
    have := sizeW_len l
    have := size_pos p.1
    simp only [List.length_cons, sizeW]
    omega
theorem lvL_mem : ∀ {l : List D}, lvL l = true → ∀ d ∈ l, lv d = true
  | [], _, d, h => by cases h
  | a :: l, h, d, hd => by
    simp only [lvL, Bool.and_eq_true] at h
    rcases List.mem_cons.mp hd with rfl | hd
    · exact h.1
    · exact lvL_mem h.2 d hd
abbrev testW : XB := xbLift (dScalT (dTru (dSh (dVar 4))))
theorem prs_data (l : List (D × Bool)) : T.data (.ls (l.map pr)) = some (.lst (l.map fun p => .tup [p.1, .bl p.2])) := by
  show (dataL (l.map pr)).map D.lst = _
  have := dataL_fz (l.map fun p => D.tup [p.1, .bl p.2])
  rw [List.map_map] at this
  rw [show l.map pr = l.map (T.fz ∘ fun p => D.tup [p.1, .bl p.2]) from rfl, this]
  rfl
theorem test_val (l : List (D × Bool)) (a0 a1 a2 a3 a5 a6 a7 a8 : T) : testW [a0, a1, a2, a3, .ls (l.map pr), a5, a6, a7, a8] = some (.inl (!l.isEmpty), [a0, a1, a2, a3, .ls (l.map pr), a5, a6, a7, a8]) := by
  have h : (T.ls (l.map pr)).frz = .fz (.lst (l.map fun p => .tup [p.1, .bl p.2])) := by unfold T.frz; rw [prs_data]
  simp only [testW, xbLift, dScalT, List.map_cons, List.map_nil, h]
  simp [dTru, dSh, dVar, share, T.data, truth]
def Six (sh : List D) (th as : T) (r : List T) : Prop := ∃ a b c e f g, r = [.fz (.tup sh), th, as, a, b, c, e, f, g]
theorem wl {sh : List D} (hs : shI sh) (th as : T) : ∀ (m : Nat) (V : List (D × Bool)) (n : Int) (x5 x6 x7 x8 : T), (∀ p ∈ V, lv p.1 = true) → sizeW V < m → sizeW V ≤ 900000 → 0 ≤ n → n ≤ 5 →
    ∃ r, Six sh th as r ∧ whileD testW turnB m [.fz (.tup sh), th, as, .fz (.int n), .ls (V.map pr), x5, x6, x7, x8] = some (if n + totW sh V ≤ 5 then .nx r else .rt (.sh (.bl false)) r) := by
  intro m
  induction m with
  | zero => intro V n x5 x6 x7 x8 _ h; omega
  | succ m ih =>
    intro V n x5 x6 x7 x8 hl hm hb n0 n5
    rcases List.eq_nil_or_concat V with rfl | ⟨V', p, rfl⟩
    · refine ⟨[.fz (.tup sh), th, as, .fz (.int n), .ls [], x5, x6, x7, x8], ⟨_, _, _, _, _, _, rfl⟩, ?_⟩
      rw [if_pos (by simp [totW]; omega)]
      have := test_val [] (.fz (.tup sh)) th as (.fz (.int n)) x5 x6 x7 x8
      simp only [whileD, this, Option.bind_some]
      rfl
    · rw [List.concat_eq_append] at *
      obtain ⟨d, t⟩ := p
      have hd : lv d = true := hl (d, t) (by simp)
      have hV : ∀ p ∈ V', lv p.1 = true := fun p hp => hl p (by simp [hp])
      rw [sizeW_app] at hm hb
      simp only [sizeW, Nat.add_zero] at hm hb
      have hlen := sizeW_len V'
      have hpos := totW_pos sh V'
      have e0 : (V' ++ [(d, t)]).map pr = V'.map pr ++ [pr (d, t)] := by simp
      have tv := test_val (V' ++ [(d, t)]) (.fz (.tup sh)) th as (.fz (.int n)) x5 x6 x7 x8
      rw [e0] at tv
      have ne : (!(V' ++ [(d, t)]).isEmpty) = true := by simp
      rw [ne] at tv
      rw [e0, totW_app]
      simp only [totW, Int.add_zero]
      have tr := turn (sh := sh) (d := d) (t := t) (V0 := V'.map pr) (n := n) (th := th) (as := as) (x5 := x5) (x6 := x6) (x7 := x7) (x8 := x8) hs hd (by rw [List.length_map]; omega)
      have fail : ∀ r, turnB [.fz (.tup sh), th, as, .fz (.int n), .ls (V'.map pr ++ [pr (d, t)]), x5, x6, x7, x8] = some (.rt (.sh (.bl false)) r) → whileD testW turnB (m + 1) [.fz (.tup sh), th, as, .fz (.int n), .ls (V'.map pr ++ [pr (d, t)]), x5, x6, x7, x8] = some (.rt (.sh (.bl false)) r) := fun r e => by
        simp only [whileD, tv, Option.bind_some, e]
      rcases tr with ⟨hp, r, e, six⟩ | ⟨hp, w, l, rfl, tr⟩
      · have := hpf_no (t := t) hp
        exact ⟨r, six, by rw [if_neg (by omega)]; exact fail r e⟩
      · rcases tr with ⟨c, r, e, six⟩ | ⟨c, c2, r, e, six⟩ | ⟨c, c2, y8, e⟩
        · obtain ⟨rfl, c⟩ := c
          have := not_test (sh := sh) (l := l) c
          exact ⟨r, six, by rw [if_neg (by omega)]; exact fail r e⟩
        · refine ⟨r, six, ?_⟩
          rw [if_neg ?_]
          · exact fail r e
          · split at c2
            · rename_i z
              have := (val_note hp z c).1
              omega
            · omega
        · have lvl : lvL l = true := by simp only [lv, lvL, Bool.and_eq_true] at hd; exact hd.2
          have inl : ∀ a ∈ inn (.tup (.str w :: l)), lv a = true := fun a ha => by
            simp only [inn] at ha
            split at ha
            · cases ha
            · exact lvL_mem lvl a ha
          have isz : sizeL (inn (.tup (.str w :: l))) < (D.tup (.str w :: l)).size := by
            simp only [inn, D.size, sizeL]
            split
            · simp [sizeL]
            · omega
          have nn : 0 ≤ (if wd w = .note then n + 1 else n) := by split <;> omega
          obtain ⟨r, six, h⟩ := ih (V' ++ (inn (.tup (.str w :: l))).map fun a => (a, t || decide (wd w = .nt))) (if wd w = .note then n + 1 else n) (.fz (.tup (.str w :: l))) (.fz (.bl t)) (.fz (.str w)) y8 (fun p hp => by
              rcases List.mem_append.mp hp with q | q
              · exact hV p q
              · obtain ⟨a, ha, rfl⟩ := List.mem_map.mp q
                exact inl a ha) (by rw [sizeW_app, sizeW_map]; omega) (by rw [sizeW_app, sizeW_map]; omega) nn (by omega)
          refine ⟨r, six, ?_⟩
          have em : (V' ++ (inn (.tup (.str w :: l))).map fun a => (a, t || decide (wd w = .nt))).map pr = V'.map pr ++ (inn (.tup (.str w :: l))).map fun a => pr (a, t || decide (wd w = .nt)) := by simp
          rw [em] at h
          have st : whileD testW turnB (m + 1) [.fz (.tup sh), th, as, .fz (.int n), .ls (V'.map pr ++ [pr (.tup (.str w :: l), t)]), x5, x6, x7, x8] = whileD testW turnB m [.fz (.tup sh), th, as, .fz (.int (if wd w = .note then n + 1 else n)), .ls (V'.map pr ++ (inn (.tup (.str w :: l))).map fun a => pr (a, t || decide (wd w = .nt))), .fz (.tup (.str w :: l)), .fz (.bl t), .fz (.str w), y8] := by
            conv => lhs; unfold whileD
            simp only [tv, Option.bind_some, e]
          rw [st, h, totW_app, totW_map]
          congr 1
          have key : (if wd w = .note then n + 1 else n) + (totW sh V' + valL sh (t || decide (wd w = .nt)) (inn (.tup (.str w :: l)))) ≤ 5 ↔ n + (totW sh V' + val sh t (.tup (.str w :: l))) ≤ 5 := by
            by_cases z : wd w = .note
            · obtain ⟨v1, v2⟩ := val_note hp z c
              rw [if_pos z, v1, v2]
              simp only [valL]
              omega
            · rw [if_neg z]
              rcases val_step hp z c with v | ⟨v1, v2⟩
              · rw [v]
              · omega
          by_cases q : n + (totW sh V' + val sh t (.tup (.str w :: l))) ≤ 5
          · rw [if_pos q, if_pos (key.mpr q)]
          · rw [if_neg q, if_neg (fun z => q (key.mp z))]
theorem v_is_made_well {sh : List D} {d : D} {t : Bool} (hs : shI sh) (hd : lv d = true) (hz : d.size ≤ 900000) : fn_is_made_well [.fz (.tup sh), .fz d, .fz (.bl t)] = some (.ret (.fz (.bl (decide (val sh t d ≤ 5)))), [.fz (.tup sh), .fz d, .fz (.bl t)]) := by
  have fu : fuel_is_made_well_1 [.fz (.tup sh), .fz d, .fz (.bl t), .fz (.int 0), .ls [pr (d, t)], .un, .un, .un, .un] = d.size + 4 := by
    simp [fuel_is_made_well_1, sizeAt, T.data, dataL, D.size, sizeL, pr]
  obtain ⟨r, six, h⟩ := wl hs (.fz d) (.fz (.bl t)) (d.size + 4) [(d, t)] 0 .un .un .un .un (by simp [hd]) (by simp only [sizeW]; omega) (by simp only [sizeW]; omega) (by omega) (by omega)
  simp only [totW, List.map_cons, List.map_nil, Int.add_zero, Int.zero_add] at h
  obtain ⟨a, b, c, e, f, g, rfl⟩ := six
  have s12 : b_is_made_well [.fz (.tup sh), .fz d, .fz (.bl t), .un, .un, .un, .un, .un, .un] = (dSeq (dWhile fuel_is_made_well_1 testW turnB) (dRet (xLift (dC (.bl true))))) [.fz (.tup sh), .fz d, .fz (.bl t), .fz (.int 0), .ls [pr (d, t)], .un, .un, .un, .un] := by
    unfold b_is_made_well
    rw [seq_nx (r1 := [.fz (.tup sh), .fz d, .fz (.bl t), .fz (.int 0), .un, .un, .un, .un, .un]) (by rfl)]
    rw [seq_nx (r1 := [.fz (.tup sh), .fz d, .fz (.bl t), .fz (.int 0), .ls [pr (d, t)], .un, .un, .un, .un]) (by simp [fnD, dRet, xLift, dBool, dAnd, dOr, dNot, dBl, dSh, dIsi, dVar, share, T.data, D.isi, D.bool, retW, outP, keepP, dSeq, dIf, xbLift, dC, dOp, dWith, fdCons, fdNil, D.items, Rs.w, dChain, gLe, gLt, gGt, gGe, gRI0, gRI, gAdd, gSubI, dAsg, mv, gdName, dDrop, dCallX, dCall, daCons, daNil, pars, back, putBack, resW, dIfE, dNext, dRaise, dItemsT, dItemsL, dFor, dLift, W.tm, dTru, truth, isFz, dAug, gMul1, dScal, dScalT, T.frz, D.scal, dUn, gNeg, gTupD, gLstD, xNot, xBl, gIx, dSl, gSlT, pAt, pNo, dMv, gInt, dInR, pr])]
    rfl
  have hw : dWhile fuel_is_made_well_1 testW turnB [.fz (.tup sh), .fz d, .fz (.bl t), .fz (.int 0), .ls [pr (d, t)], .un, .un, .un, .un] = some (if val sh t d ≤ 5 then .nx [.fz (.tup sh), .fz d, .fz (.bl t), a, b, c, e, f, g] else .rt (.sh (.bl false)) [.fz (.tup sh), .fz d, .fz (.bl t), a, b, c, e, f, g]) := by
    unfold dWhile
    rw [fu]
    exact h
  by_cases q : val sh t d ≤ 5
  · rw [if_pos q] at hw
    rw [decide_eq_true q]
    refine (fn_rt (d := .bl true) (r := [.fz (.tup sh), .fz d, .fz (.bl t), a, b, c, e, f, g]) (by rfl) ((s12.trans (seq_nx hw)).trans rfl) (by simp)).trans (by simp [outP])
  · rw [if_neg q] at hw
    rw [decide_eq_false q]
    refine (fn_rt (d := .bl false) (r := [.fz (.tup sh), .fz d, .fz (.bl t), a, b, c, e, f, g]) (by rfl) (s12.trans (seq_rt hw)) (by simp)).trans (by simp [outP])
end K5

set_option Elab.async false
set_option linter.all false
set_option maxRecDepth 100000
set_option maxHeartbeats 8000000
namespace K5
open PySem PySem.Spec PyProof.Rows L2 Q
theorem upto_len (n : Nat) : (upto 0 n).length = n := by unfold upto; simp
theorem v__law_take {n k : Int} (hk : 0 < k) (hk2 : k < 1000) : fn__law_take [.ls [.fz (.int n)], .fz (.int k)] = some (.ret (.fz (.int (n % k))), [.ls [.fz (.int (n / k))], .fz (.int k)]) := by
  have hc : CDivW n k := wide_div hk (b := 10) (by omega) (by decide) (by decide)
  simp [fn__law_take, fnD, b__law_take, dSeq, dAsg, xLift, dOp, dWith, fdCons, fdNil, dSh, dIxO, isLs, dC, share, atI, ixN, dVar, T.data, gMod, gRI, hk, Rs.w, mv, gdName, gDiv, hc, gdIx, dRet, retW, outP]
theorem v__law_mixed {c k : Int} (hk : -(2 ^ 40) < k ∧ k < 2 ^ 40) : ∃ v, 0 ≤ v ∧ v < 2147483579 ∧ fn__law_mixed [.fz (.int c), .fz (.int k)] = some (.ret (.fz (.int v)), [.fz (.int c), .fz (.int k)]) := by
  have m1 := Int.emod_nonneg c (show (2147483647 : Int) ≠ 0 by decide)
  have m2 := Int.emod_lt_of_pos c (show (0 : Int) < 2147483647 by decide)
  generalize hx : c % 2147483647 = x at m1 m2
  have c1 : CMulW x 48271 := mulW_small 32 17 (by omega) (by decide) (by decide) (by decide) (by decide)
  have c2 : CMulW k 69621 := mulW_small 41 18 (by omega) (by decide) (by decide) (by decide) (by decide)
  have n1 := Int.emod_nonneg (x * 48271 + k * 69621 + 1048583) (show (2147483629 : Int) ≠ 0 by decide)
  have n2 := Int.emod_lt_of_pos (x * 48271 + k * 69621 + 1048583) (show (0 : Int) < 2147483629 by decide)
  generalize hy : (x * 48271 + k * 69621 + 1048583) % 2147483629 = y at n1 n2
  have c3 : CMulW y y := mulW_small 32 32 (by omega) (by omega) (by decide) (by decide) (by decide)
  have o1 := Int.emod_nonneg (y * y) (show (2147483587 : Int) ≠ 0 by decide)
  have o2 := Int.emod_lt_of_pos (y * y) (show (0 : Int) < 2147483587 by decide)
  generalize hz : y * y % 2147483587 = z at o1 o2
  have c4 : CMulW z (z + 2) := mulW_small 32 33 (by omega) (by omega) (by decide) (by decide) (by decide)
  have p1 := Int.emod_nonneg (z * (z + 2)) (show (2147483579 : Int) ≠ 0 by decide)
  have p2 := Int.emod_lt_of_pos (z * (z + 2)) (show (0 : Int) < 2147483579 by decide)
  refine ⟨z * (z + 2) % 2147483579, p1, p2, ?_⟩
  simp [fn__law_mixed, fnD, b__law_mixed, dSeq, dAsg, xLift, dOp, dWith, fdCons, fdNil, dSh, dC, share, dVar, T.data, gMod, gRI, gRI0, gAdd, gMul, Rs.w, mv, gdName, dRet, retW, outP, hx, c1, c2, hy, c3, hz, c4]
theorem v__law_cell {ns : List Int} {k : Int} (h0 : 0 ≤ k) (h1 : k < 64) : ∃ c, fn__law_cell [.fz (.scr ns), .fz (.int k)] = some (.ret (.fz (.int c)), [.fz (.scr ns), .fz (.int k)]) := by
  -- the cell itself
  have cell : ∃ x : Int, (dIf (xbLift (dBl (dSh (dOp gLt (dSh (dVar 1)) (dSh (dWith (fdCons (dSh (dVar 0)) fdNil) gLen)))))) (dAsg (xLift (dOp gIx (dSh (dVar 0)) (dSh (dVar 1)))) (gdName 2)) dNext) [.fz (.scr ns), .fz (.int k), .fz (.int 0), .un, .un] = some (.nx [.fz (.scr ns), .fz (.int k), .fz (.int x), .un, .un]) := by
    by_cases c : k < ns.length
    · have hk : k.toNat < ns.length := by omega
      refine ⟨ns[k.toNat], ?_⟩
      have a1 : atI (ns.map D.int) k = some (.int ns[k.toNat]) := by
        unfold L2.atI L2.ixN
        rw [if_pos h0, List.length_map, if_pos c]
        simp [hk]
      simp [dIf, xbLift, dBl, dSh, dOp, dWith, fdCons, fdNil, dVar, share, T.data, gLen, D.items, Rs.w, gLt, gRI0, D.bool, c, dAsg, xLift, gIx, a1, mv, gdName]
    · refine ⟨0, ?_⟩
      simp [dIf, xbLift, dBl, dSh, dOp, dWith, fdCons, fdNil, dVar, share, T.data, gLen, D.items, Rs.w, gLt, gRI0, D.bool, c, dNext]
  obtain ⟨x, hx⟩ := cell
  have s1 : b__law_cell [.fz (.scr ns), .fz (.int k), .un, .un, .un] = (dSeq (dIf (xbLift (dBl (dSh (dOp gGe (dSh (dVar 2)) (dSh (dOp gPow (dSh (dC (.int 10))) (dSh (dC (.int 18))))))))) (dRet (xLift (dOp gMod (dSh (dOp gSubI (dSh (dVar 2)) (dSh (dOp gPow (dSh (dC (.int 10))) (dSh (dC (.int 18))))))) (dSh (dOp gMul (dSh (dOp gMul (dSh (dOp gMul (dSh (dOp gPow (dSh (dC (.int 10))) (dSh (dC (.int 60))))) (dSh (dOp gPow (dSh (dC (.int 10))) (dSh (dC (.int 60))))))) (dSh (dOp gPow (dSh (dC (.int 10))) (dSh (dC (.int 60))))))) (dSh (dOp gPow (dSh (dC (.int 10))) (dSh (dC (.int 60)))))))))) dNext)
    (dSeq (dAsg (xLift (dC (.int 0))) (gdName 3))
    (dSeq (dFor (dRange1 (fdCons (dSh (dC (.int 24))) fdNil)) (gdName 4) (dAsg (xLift (dOp gAdd (dSh (dOp gMul (dSh (dVar 3)) (dSh (dC (.int 2147483579))))) (dSh (dCall fn__law_mixed (daCons (dVar 2) (daCons (dOp gAdd (dSh (dOp gAdd (dSh (dOp gMul (dSh (dC (.int 7))) (dSh (dVar 1)))) (dSh (dOp gMul (dSh (dC (.int 100))) (dSh (dVar 4)))))) (dSh (dOp gMul (dSh (dVar 4)) (dSh (dVar 4))))) daNil)))))) (gdName 3)))
    (dRet (xLift (dVar 3)))))) [.fz (.scr ns), .fz (.int k), .fz (.int x), .un, .un] := by
    unfold b__law_cell
    rw [seq_nx (r1 := [.fz (.scr ns), .fz (.int k), .fz (.int 0), .un, .un]) (by rfl)]
    rw [seq_nx hx]
  have pw : CPow 10 18 := ⟨by decide, by decide, by decide⟩
  have pw2 : CPow 10 60 := ⟨by decide, by decide, by decide⟩
  by_cases big : (10 : Int) ^ 18 ≤ x
  · have q1 : CMulW ((10 : Int) ^ 60) (10 ^ 60) := by decide +kernel
    have q2 : CMulW ((10 : Int) ^ 60 * 10 ^ 60) (10 ^ 60) := by decide +kernel
    have q3 : CMulW ((10 : Int) ^ 60 * 10 ^ 60 * 10 ^ 60) (10 ^ 60) := by decide +kernel
    have q4 : (0 : Int) < 10 ^ 60 * 10 ^ 60 * 10 ^ 60 * 10 ^ 60 := by decide +kernel
    refine ⟨(x - 10 ^ 18) % (10 ^ 60 * 10 ^ 60 * 10 ^ 60 * 10 ^ 60), ?_⟩
    refine (fn_rt (d := .int ((x - (10 : Int) ^ 18) % (10 ^ 60 * 10 ^ 60 * 10 ^ 60 * 10 ^ 60))) (r := [.fz (.scr ns), .fz (.int k), .fz (.int x), .un, .un]) (by rfl) (s1.trans (seq_rt ?_)) (by simp)).trans (by rfl)
    have e18 : dSh (dOp gPow (dSh (dC (.int 10))) (dSh (dC (.int 18)))) [.fz (.scr ns), .fz (.int k), .fz (.int x), .un, .un] = some (.int (10 ^ 18), [.fz (.scr ns), .fz (.int k), .fz (.int x), .un, .un]) := sh_sh (op_eval (z := .val (.int (10 ^ 18))) rfl rfl (if_pos (e := none) pw))
    have e60 : dSh (dOp gPow (dSh (dC (.int 10))) (dSh (dC (.int 60)))) [.fz (.scr ns), .fz (.int k), .fz (.int x), .un, .un] = some (.int (10 ^ 60), [.fz (.scr ns), .fz (.int k), .fz (.int x), .un, .un]) := sh_sh (op_eval (z := .val (.int (10 ^ 60))) rfl rfl (if_pos (e := none) pw2))
    have ev : dSh (dVar 2) [.fz (.scr ns), .fz (.int k), .fz (.int x), .un, .un] = some (.int x, [.fz (.scr ns), .fz (.int k), .fz (.int x), .un, .un]) := rfl
    have g1 := bl_of (sh_sh (op_eval (g := gGe) (z := .val (.bl (decide ((10 : Int) ^ 18 ≤ x)))) ev e18 rfl))
    have m1 := sh_sh (op_eval (g := gMul) (z := .val (.int ((10 : Int) ^ 60 * 10 ^ 60))) e60 e60 (if_pos (e := none) q1))
    have m2 := sh_sh (op_eval (g := gMul) (z := .val (.int ((10 : Int) ^ 60 * 10 ^ 60 * 10 ^ 60))) m1 e60 (if_pos (e := none) q2))
    have m3 := sh_sh (op_eval (g := gMul) (z := .val (.int ((10 : Int) ^ 60 * 10 ^ 60 * 10 ^ 60 * 10 ^ 60))) m2 e60 (if_pos (e := none) q3))
    have sb := sh_sh (op_eval (g := gSubI) (z := .val (.int (x - (10 : Int) ^ 18))) ev e18 rfl)
    have md := op_eval (g := gMod) (z := .val (.int ((x - (10 : Int) ^ 18) % (10 ^ 60 * 10 ^ 60 * 10 ^ 60 * 10 ^ 60)))) sb m3 (if_pos (e := none) q4)
    unfold dIf xbLift
    rw [g1]
    simp only [big, decide_true, Option.bind_some]
    unfold dRet xLift
    rw [md]
    rfl
  · have e18 : dSh (dOp gPow (dSh (dC (.int 10))) (dSh (dC (.int 18)))) [.fz (.scr ns), .fz (.int k), .fz (.int x), .un, .un] = some (.int (10 ^ 18), [.fz (.scr ns), .fz (.int k), .fz (.int x), .un, .un]) := sh_sh (op_eval (z := .val (.int (10 ^ 18))) rfl rfl (if_pos (e := none) pw))
    have ev : dSh (dVar 2) [.fz (.scr ns), .fz (.int k), .fz (.int x), .un, .un] = some (.int x, [.fz (.scr ns), .fz (.int k), .fz (.int x), .un, .un]) := rfl
    have g1 := bl_of (sh_sh (op_eval (g := gGe) (z := .val (.bl (decide ((10 : Int) ^ 18 ≤ x)))) ev e18 rfl))
    have turn : ∀ pre d post, upto 0 24 = pre ++ d :: post → ∀ r, (∃ f y, f.natAbs < 2 ^ (32 * pre.length + 1) ∧ r = [.fz (.scr ns), .fz (.int k), .fz (.int x), .fz (.int f), y]) → ∃ r1 r2, gdName 4 r (.fz d) = some r1 ∧ (dAsg (xLift (dOp gAdd (dSh (dOp gMul (dSh (dVar 3)) (dSh (dC (.int 2147483579))))) (dSh (dCall fn__law_mixed (daCons (dVar 2) (daCons (dOp gAdd (dSh (dOp gAdd (dSh (dOp gMul (dSh (dC (.int 7))) (dSh (dVar 1)))) (dSh (dOp gMul (dSh (dC (.int 100))) (dSh (dVar 4)))))) (dSh (dOp gMul (dSh (dVar 4)) (dSh (dVar 4))))) daNil)))))) (gdName 3)) r1 = some (.nx r2) ∧ ∃ f y, f.natAbs < 2 ^ (32 * (pre.length + 1) + 1) ∧ r2 = [.fz (.scr ns), .fz (.int k), .fz (.int x), .fz (.int f), y] := by
      rintro pre d post eu r ⟨f, y, hf, rfl⟩
      have hlen : pre.length < 24 := by
        have := congrArg List.length eu
        rw [upto_len] at this
        simp at this
        omega
      have hd : d = .int pre.length := by
        have := congrArg (fun l => l[pre.length]?) eu
        simp [upto, hlen] at this
        exact this.symm
      subst hd
      have j1 : (0 : Int) ≤ pre.length := by omega
      have j2 : (pre.length : Int) < 24 := by omega
      generalize hj : (pre.length : Int) = j at j1 j2
      have jj : (0 : Int) ≤ j * j ∧ j * j ≤ 24 * 24 := ⟨Int.mul_nonneg j1 j1, Int.mul_le_mul (by omega) (by omega) j1 (by decide)⟩
      have fb : f.natAbs < 2 ^ 800 := Nat.lt_of_lt_of_le hf (Nat.pow_le_pow_right (by decide) (by omega))
      have c1 : CMulW f 2147483579 := mulW_small 800 32 fb (by decide) (by decide) (by decide) (by decide)
      have c2 : CMulW 7 k := mulW_small 4 10 (by decide) (by omega) (by decide) (by decide) (by decide)
      have c3 : CMulW 100 j := mulW_small 8 10 (by decide) (by omega) (by decide) (by decide) (by decide)
      have c4 : CMulW j j := mulW_small 10 10 (by omega) (by omega) (by decide) (by decide) (by decide)
      obtain ⟨v, v0, v1, hv⟩ := v__law_mixed (c := x) (k := 7 * k + 100 * j + j * j) (by omega)
      refine ⟨[.fz (.scr ns), .fz (.int k), .fz (.int x), .fz (.int f), .fz (.int j)], [.fz (.scr ns), .fz (.int k), .fz (.int x), .fz (.int (f * 2147483579 + v)), .fz (.int j)], rfl, ?_, f * 2147483579 + v, .fz (.int j), ?_, rfl⟩
      · have m0 := sh_sh (op_eval (g := gMul) (fa := dSh (dVar 3)) (fb := dSh (dC (.int 2147483579))) (r := [.fz (.scr ns), .fz (.int k), .fz (.int x), .fz (.int f), .fz (.int j)]) (z := .val (.int (f * 2147483579))) rfl rfl (if_pos (e := none) c1))
        have m1 := sh_sh (op_eval (g := gMul) (fa := dSh (dC (.int 7))) (fb := dSh (dVar 1)) (r := [.fz (.scr ns), .fz (.int k), .fz (.int x), .fz (.int f), .fz (.int j)]) (z := .val (.int (7 * k))) rfl rfl (if_pos (e := none) c2))
        have m2 := sh_sh (op_eval (g := gMul) (fa := dSh (dC (.int 100))) (fb := dSh (dVar 4)) (r := [.fz (.scr ns), .fz (.int k), .fz (.int x), .fz (.int f), .fz (.int j)]) (z := .val (.int (100 * j))) rfl rfl (if_pos (e := none) c3))
        have m3 := sh_sh (op_eval (g := gMul) (fa := dSh (dVar 4)) (fb := dSh (dVar 4)) (r := [.fz (.scr ns), .fz (.int k), .fz (.int x), .fz (.int f), .fz (.int j)]) (z := .val (.int (j * j))) rfl rfl (if_pos (e := none) c4))
        have a1 := sh_sh (op_eval (g := gAdd) (z := .val (.int (7 * k + 100 * j))) m1 m2 rfl)
        have a2 := op_eval (g := gAdd) (z := .val (.int (7 * k + 100 * j + j * j))) a1 m3 rfl
        have cl := call_sh (fn := fn__law_mixed) (f := daCons (dVar 2) (daCons (dOp gAdd (dSh (dOp gAdd (dSh (dOp gMul (dSh (dC (.int 7))) (dSh (dVar 1)))) (dSh (dOp gMul (dSh (dC (.int 100))) (dSh (dVar 4)))))) (dSh (dOp gMul (dSh (dVar 4)) (dSh (dVar 4))))) daNil)) (r := [.fz (.scr ns), .fz (.int k), .fz (.int x), .fz (.int f), .fz (.int j)]) (r1 := [.fz (.scr ns), .fz (.int k), .fz (.int x), .fz (.int f), .fz (.int j)]) (r2 := [.fz (.scr ns), .fz (.int k), .fz (.int x), .fz (.int f), .fz (.int j)]) (ws := [.pl 2, .sh (.int (7 * k + 100 * j + j * j))]) (by simp only [daCons, daNil, show dVar 2 [.fz (.scr ns), .fz (.int k), .fz (.int x), .fz (.int f), .fz (.int j)] = some (.pl 2, [.fz (.scr ns), .fz (.int k), .fz (.int x), .fz (.int f), .fz (.int j)]) from rfl, Option.bind_some, a2, Rs.w]; rfl) (by rfl) hv rfl
        exact asg_sh (i := 3) (op_eval (g := gAdd) (z := .val (.int (f * 2147483579 + v))) m0 (sh_sh cl) rfl)
      · have e32 : 2 ^ (32 * (pre.length + 1) + 1) = 2 ^ (32 * pre.length + 1) * 4294967296 := by
          rw [show 32 * (pre.length + 1) + 1 = (32 * pre.length + 1) + 32 by omega, Nat.pow_add]
        rw [e32]
        have : (0 : Nat) < 2 ^ (32 * pre.length + 1) := Nat.pow_pos (by decide)
        generalize 2 ^ (32 * pre.length + 1) = M at hf this
        omega
    obtain ⟨r', e1, f, y, _, rfl⟩ := loop_all (h := gdName 4) (st := fun (n : Nat) r => ∃ f y, f.natAbs < 2 ^ (32 * n + 1) ∧ r = [.fz (.scr ns), .fz (.int k), .fz (.int x), .fz (.int f), y]) (f := fun n _ => n + 1) (a0 := 0) (l := upto 0 24) (r := [.fz (.scr ns), .fz (.int k), .fz (.int x), .fz (.int 0), .un])
      (fun pre d post eu r hr => by
        have cnt : ∀ (q : List D) (n : Nat), q.foldl (fun n _ => n + 1) n = n + q.length := by
          intro q
          induction q with
          | nil => intro n; rfl
          | cons a q ih => intro n; rw [List.foldl_cons, ih, List.length_cons]; omega
        rw [cnt, Nat.zero_add] at hr ⊢
        exact turn pre d post eu r hr) ⟨0, .un, by decide, rfl⟩
    refine ⟨f, ?_⟩
    have fin : b__law_cell [.fz (.scr ns), .fz (.int k), .un, .un, .un] = some (.rt (.pl 3) [.fz (.scr ns), .fz (.int k), .fz (.int x), .fz (.int f), y]) := by
      rw [s1]
      rw [seq_nx (r1 := [.fz (.scr ns), .fz (.int k), .fz (.int x), .un, .un]) (by unfold dIf xbLift; rw [g1, decide_eq_false big]; rfl)]
      rw [seq_nx (r1 := [.fz (.scr ns), .fz (.int k), .fz (.int x), .fz (.int 0), .un]) (by rfl)]
      rw [seq_nx (for_nx (l := upto 0 24) (r1 := [.fz (.scr ns), .fz (.int k), .fz (.int x), .fz (.int 0), .un]) (by rfl) e1)]
      rfl
    show fnD 2 5 [true, true] b__law_cell [.fz (.scr ns), .fz (.int k)] = _
    unfold fnD
    rw [if_pos (show [T.fz (.scr ns), T.fz (.int k)].length = 2 from rfl)]
    show ((b__law_cell [.fz (.scr ns), .fz (.int k), .un, .un, .un]).bind _) = _
    rw [fin]
    rfl
end K5

set_option Elab.async false
set_option linter.all false
set_option maxRecDepth 100000
set_option maxHeartbeats 8000000
namespace K5
open PySem PySem.Spec PyProof.Rows L2 Q
/-! ### shapes -/
def prodI : List Int → Int
  | [] => 1
  | x :: l => x * prodI l
structure GSh (sh : List D) : Prop where
  ex : ∃ l : List Int, sh = l.map .int ∧ (∀ x ∈ l, 1 ≤ x ∧ x ≤ 4) ∧ 1 ≤ l.length ∧ l.length ≤ 3 ∧ prodI l ≤ 27
theorem GSh.ints {sh : List D} (h : GSh sh) : shI sh := by
  obtain ⟨l, rfl, _⟩ := h.ex
  intro x hx
  obtain ⟨n, _, rfl⟩ := List.mem_map.mp hx
  exact ⟨n, rfl⟩
theorem cm {i j : Int} (h1 : 1 ≤ j) (h2 : j ≤ 4) : CMul i j := Or.inr ⟨by omega, by omega⟩
theorem v_is_shape {sh : List D} (h : GSh sh) : fn_is_shape [.fz (.tup sh)] = some (.ret (.fz (.bl true)), [.fz (.tup sh)]) := by
  obtain ⟨l, rfl, hx, h1, h3, hp⟩ := h.ex
  match l, h1, h3 with
  | [a], _, _ =>
    obtain ⟨a1, a4⟩ := hx a (by simp)
    have na := v_is_number (d := .int a) rfl
    have ca := cm (i := 1) a1 a4
    simp [prodI] at hp
    simp [fn_is_shape, b_is_shape, fnD, dRet, xLift, dBool, dAnd, dOr, dNot, dBl, dSh, dIsi, dVar, share, T.data, D.isi, D.bool, retW, outP, keepP, dSeq, dIf, xbLift, dC, dOp, dWith, fdCons, fdNil, D.items, Rs.w, dChain, gLe, gLt, gGt, gGe, gRI0, gRI, gAdd, gSubI, dAsg, mv, gdName, dDrop, dCallX, dCall, daCons, daNil, pars, back, putBack, resW, dIfE, dNext, dRaise, dItemsT, dItemsL, dFor, dLift, W.tm, dTru, truth, isFz, dAug, gMul1, dScal, dScalT, T.frz, D.scal, dUn, gNeg, gTupD, gLstD, xNot, xBl, gIx, dSl, gSlT, pAt, pNo, dMv, gInt, dInR, len_tup, loopD, na, isNum, a1, a4, ca, hp]
  | [a, b], _, _ =>
    obtain ⟨a1, a4⟩ := hx a (by simp)
    obtain ⟨b1, b4⟩ := hx b (by simp)
    have na := v_is_number (d := .int a) rfl
    have nb := v_is_number (d := .int b) rfl
    have ca := cm (i := 1) a1 a4
    have cb := cm (i := a) b1 b4
    simp [prodI] at hp
    simp [fn_is_shape, b_is_shape, fnD, dRet, xLift, dBool, dAnd, dOr, dNot, dBl, dSh, dIsi, dVar, share, T.data, D.isi, D.bool, retW, outP, keepP, dSeq, dIf, xbLift, dC, dOp, dWith, fdCons, fdNil, D.items, Rs.w, dChain, gLe, gLt, gGt, gGe, gRI0, gRI, gAdd, gSubI, dAsg, mv, gdName, dDrop, dCallX, dCall, daCons, daNil, pars, back, putBack, resW, dIfE, dNext, dRaise, dItemsT, dItemsL, dFor, dLift, W.tm, dTru, truth, isFz, dAug, gMul1, dScal, dScalT, T.frz, D.scal, dUn, gNeg, gTupD, gLstD, xNot, xBl, gIx, dSl, gSlT, pAt, pNo, dMv, gInt, dInR, len_tup, loopD, na, nb, isNum, a1, a4, b1, b4, ca, cb, hp]
  | [a, b, c], _, _ =>
    obtain ⟨a1, a4⟩ := hx a (by simp)
    obtain ⟨b1, b4⟩ := hx b (by simp)
    obtain ⟨c1, c4⟩ := hx c (by simp)
    have na := v_is_number (d := .int a) rfl
    have nb := v_is_number (d := .int b) rfl
    have nc := v_is_number (d := .int c) rfl
    have ca := cm (i := 1) a1 a4
    have cb := cm (i := a) b1 b4
    have cc := cm (i := a * b) c1 c4
    simp [prodI] at hp
    rw [← Int.mul_assoc] at hp
    simp [fn_is_shape, b_is_shape, fnD, dRet, xLift, dBool, dAnd, dOr, dNot, dBl, dSh, dIsi, dVar, share, T.data, D.isi, D.bool, retW, outP, keepP, dSeq, dIf, xbLift, dC, dOp, dWith, fdCons, fdNil, D.items, Rs.w, dChain, gLe, gLt, gGt, gGe, gRI0, gRI, gAdd, gSubI, dAsg, mv, gdName, dDrop, dCallX, dCall, daCons, daNil, pars, back, putBack, resW, dIfE, dNext, dRaise, dItemsT, dItemsL, dFor, dLift, W.tm, dTru, truth, isFz, dAug, gMul1, dScal, dScalT, T.frz, D.scal, dUn, gNeg, gTupD, gLstD, xNot, xBl, gIx, dSl, gSlT, pAt, pNo, dMv, gInt, dInR, len_tup, loopD, na, nb, nc, isNum, a1, a4, b1, b4, c1, c4, ca, cb, cc, hp]
theorem v_check {Z : Zs} {sh : List D} (h : GSh sh) : fn_check_shape Z [.fz (.tup sh)] = some (.ret (.fz .non), [.fz (.tup sh)]) := by
  have hs := v_is_shape h
  simp [fn_check_shape, b_check_shape, fnD, dRet, xLift, dBool, dAnd, dOr, dNot, dBl, dSh, dIsi, dVar, share, T.data, D.isi, D.bool, retW, outP, keepP, dSeq, dIf, xbLift, dC, dOp, dWith, fdCons, fdNil, D.items, Rs.w, dChain, gLe, gLt, gGt, gGe, gRI0, gRI, gAdd, gSubI, dAsg, mv, gdName, dDrop, dCallX, dCall, daCons, daNil, pars, back, putBack, resW, dIfE, dNext, dRaise, dItemsT, dItemsL, dFor, dLift, W.tm, dTru, truth, isFz, dAug, gMul1, dScal, dScalT, T.frz, D.scal, dUn, gNeg, gTupD, gLstD, xNot, xBl, gIx, dSl, gSlT, pAt, pNo, dMv, gInt, dInR, hs]
theorem v_is_saying {Z : Zs} {sh : List D} {d : D} (h : GSh sh) (hd : lv d = true) (hz : d.size ≤ 900000) : fn_is_saying Z [.fz (.tup sh), .fz d] = some (.ret (.fz (.bl (decide (ntd sh d < 6)))), [.fz (.tup sh), .fz d]) := by
  have hs := v_check (Z := Z) h
  have hm := v_is_made_well (t := false) h.ints hd hz
  have e : decide (val sh false d ≤ 5) = decide (ntd sh d < 6) := by
    by_cases c : ntd sh d < 6
    · rw [decide_eq_true c, decide_eq_true (show val sh false d ≤ 5 by simp only [val]; omega)]
    · rw [decide_eq_false c, decide_eq_false (show ¬ val sh false d ≤ 5 by simp only [val]; omega)]
  rw [e] at hm
  simp [fn_is_saying, b_is_saying, fnD, dRet, xLift, dBool, dAnd, dOr, dNot, dBl, dSh, dIsi, dVar, share, T.data, D.isi, D.bool, retW, outP, keepP, dSeq, dIf, xbLift, dC, dOp, dWith, fdCons, fdNil, D.items, Rs.w, dChain, gLe, gLt, gGt, gGe, gRI0, gRI, gAdd, gSubI, dAsg, mv, gdName, dDrop, dCallX, dCall, daCons, daNil, pars, back, putBack, resW, dIfE, dNext, dRaise, dItemsT, dItemsL, dFor, dLift, W.tm, dTru, truth, isFz, dAug, gMul1, dScal, dScalT, T.frz, D.scal, dUn, gNeg, gTupD, gLstD, xNot, xBl, gIx, dSl, gSlT, pAt, pNo, dMv, gInt, dInR, hs, hm]
/-! ### the law's shapes -/
theorem take_at {p k : Int} (hk : 0 < k) (hk2 : k < 1000) : fn__law_take [.ls [.fz (.int p)], .fz (.int k)] = some (.ret (.fz (.int (p % k))), [.ls [.fz (.int (p / k))], .fz (.int k)]) := v__law_take hk hk2
end K5

set_option Elab.async false
set_option linter.all false
set_option maxRecDepth 100000
set_option maxHeartbeats 8000000
namespace K5
open PySem PySem.Spec PyProof.Rows L2 Q
/-! ### what the law draws -/
def stockS : List Str := ["yes", "no", "note", "is", "put", "then", "either", "again", "not", "Yes", "", "0"]
def leaf : D → Bool
  | .non => true
  | .bl _ => true
  | .int i => decide (-1 ≤ i ∧ i ≤ 30) || decide (i = 100000000000000000000000000000)
  | .str s => stockS.contains s
  | _ => false
mutual
def wt : D → Nat
  | .tup l => wtL l + 10
  | .lst l => wtL l + 10
  | _ => 100
def wtL : List D → Nat
  | [] => 0
  | d :: l => wt d + 2 + wtL l
end
mutual
def fin : D → Bool
  | .tup l => finL l
  | .lst l => finL l
  | .non => leaf .non
  | .bl b => leaf (.bl b)
  | .int i => leaf (.int i)
  | .str s => leaf (.str s)
  | _ => false
def finL : List D → Bool
  | [] => true
  | d :: l => fin d && finL l
end
/-! ### texts of what is drawn -/
theorem strOk_app (a b : Str) : PyData.strOk (a ++ b) = (PyData.strOk a && PyData.strOk b) := by
  show (a.cps ++ b.cps).all _ = _
  rw [Array.all_append]
  rfl
theorem litx : PyData.strOk (", " : String) = true ∧ PyData.strOk ("" : String) = true ∧ PyData.strOk ("[" : String) = true ∧ PyData.strOk ("]" : String) = true ∧ PyData.strOk ("(" : String) = true ∧ PyData.strOk (",)" : String) = true ∧ PyData.strOk (")" : String) = true := by decide +kernel
theorem strOk_join : ∀ ts : List Str, (∀ t ∈ ts, PyData.strOk t = true) → PyData.strOk (Str.join ", " ts) = true
  | [], _ => litx.2.1
  | [x], h => h x (by simp)
  | x :: y :: r, h => by
    show PyData.strOk (x ++ ", " ++ Str.join ", " (y :: r)) = true
    rw [strOk_app, strOk_app, h x (by simp), strOk_join (y :: r) fun t ht => h t (List.mem_cons_of_mem _ ht), litx.1]
    rfl
theorem strOk_from : ∀ (ts : List Str) (k : Nat) (acc : Str), (∀ t ∈ ts, PyData.strOk t = true) → PyData.strOk acc = true → PyData.strOk (textFrom k acc ts) = true
  | [], k, acc, _, h => h
  | t :: r, k, acc, ht, h => by
    refine strOk_from r (k + 1) _ (fun u hu => ht u (List.mem_cons_of_mem _ hu)) ?_
    rw [strOk_app, strOk_app, h, ht t (by simp)]
    split <;> simp [litx]
theorem strOk_tup (ts : List Str) (h : ∀ t ∈ ts, PyData.strOk t = true) : PyData.strOk (tupleText ts) = true := by
  unfold tupleText
  rw [strOk_app, strOk_app, strOk_join ts h]
  split <;> simp [litx]
theorem strOk_lst (ts : List Str) (h : ∀ t ∈ ts, PyData.strOk t = true) : PyData.strOk (listText ts) = true := by
  unfold listText
  rw [strOk_app, strOk_from ts 0 "[" h litx.2.2.1, litx.2.2.2.1]
  rfl
def Shw (d : D) : Prop := ∃ x, d.py = some x ∧ x.showable = true ∧ x.depth = dep d ∧ x.shown.length ≤ wt d ∧ PyData.strOk x.shown = true
def ShwL (l : List D) : Prop := ∃ xs, pyL l = some xs ∧ PyData.showableAll xs = true ∧ PyData.depthAll xs = depL l ∧ ((PyData.shownAll xs).map (·.length)).sum + 2 * l.length ≤ wtL l ∧ (PyData.shownAll xs).length = l.length ∧ ∀ t ∈ PyData.shownAll xs, PyData.strOk t = true
def leafs : List D := [.non, .bl true, .bl false, .int 100000000000000000000000000000] ++ stockS.map D.str ++ (List.range 32).map fun i : Nat => D.int ((i : Int) - 1)
def shwB (d : D) : Bool := match d.py with
  | some x => x.showable && decide (x.depth = dep d) && decide (x.shown.length ≤ wt d) && PyData.strOk x.shown
  | none => false
theorem leafs_ok : leafs.all shwB = true := by decide +kernel
theorem leafs_lv : leafs.all lv = true := by decide +kernel
theorem leaf_mem {d : D} (h : leaf d = true) : d ∈ leafs := by
  unfold leafs
  cases d with
  | non => simp
  | bl b => cases b <;> simp
  | int i =>
    simp only [leaf, Bool.or_eq_true, decide_eq_true_eq] at h
    rcases h with h | h
    · apply List.mem_append_right
      refine List.mem_map.mpr ⟨(i + 1).toNat, by rw [List.mem_range]; omega, ?_⟩
      congr 1
      omega
    · subst h; simp
  | str s =>
    apply List.mem_append_left
    apply List.mem_append_right
    refine List.mem_map.mpr ⟨s, ?_, rfl⟩
    simpa [leaf] using h
  | _ => cases h
theorem shw_leaf {d : D} (h : leaf d = true) : Shw d := by
  have := List.all_eq_true.mp leafs_ok d (leaf_mem h)
  unfold shwB at this
  split at this
  · rename_i x e
    simp only [Bool.and_eq_true, decide_eq_true_eq] at this
    exact ⟨x, e, this.1.1.1, this.1.1.2, this.1.2, this.2⟩
  · cases this
mutual
theorem shw : ∀ d : D, fin d = true → Shw d
  | .tup l, h => by
    obtain ⟨xs, e, a1, a2, a3, a4, a5⟩ := shwL l (by simpa only [fin] using h)
    refine ⟨.tuple xs, by show (pyL l).map PyData.tuple = _; rw [e]; rfl, a1, ?_, ?_, strOk_tup _ a5⟩
    · simp only [PyData.depth, dep, a2]
    · have := tupleText_len_le (PyData.shownAll xs)
      show (tupleText (PyData.shownAll xs)).length ≤ _
      simp only [wt]
      omega
  | .lst l, h => by
    obtain ⟨xs, e, a1, a2, a3, a4, a5⟩ := shwL l (by simpa only [fin] using h)
    refine ⟨.list xs, by show (pyL l).map PyData.list = _; rw [e]; rfl, a1, ?_, ?_, strOk_lst _ a5⟩
    · simp only [PyData.depth, dep, a2]
    · have := listText_len_le (PyData.shownAll xs)
      show (listText (PyData.shownAll xs)).length ≤ _
      simp only [wt]
      omega
  | .non, h => shw_leaf h
  | .bl _, h => shw_leaf h
  | .int _, h => shw_leaf h
  | .str _, h => shw_leaf h
  | .dk _ _, h => by simp [fin] at h
  | .dt _ _, h => by simp [fin] at h
  | .exc _, h => by simp [fin] at h
  | .scr _, h => by simp [fin] at h
  | .fnc _, h => by simp [fin] at h
theorem shwL : ∀ l : List D, finL l = true → ShwL l
  | [], _ => ⟨[], rfl, rfl, rfl, by simp [PyData.shownAll, wtL], rfl, by simp [PyData.shownAll]⟩
  | d :: l, h => by
    simp only [finL, Bool.and_eq_true] at h
    obtain ⟨x, e, b1, b2, b3, b4⟩ := shw d h.1
    obtain ⟨xs, e2, a1, a2, a3, a4, a5⟩ := shwL l h.2
    refine ⟨x :: xs, ?_, ?_, ?_, ?_, ?_, ?_⟩
    · show (d.py.bind fun x => (pyL l).map (x :: ·)) = _
      rw [e, e2]
      rfl
    · simp [PyData.showableAll, b1, a1]
    · simp only [PyData.depthAll, depL, a2, b2]
    · simp only [PyData.shownAll, List.map_cons, List.sum_cons, List.length_cons, wtL]
      omega
    · simp [PyData.shownAll, a4]
    · intro t ht
      simp only [PyData.shownAll, List.mem_cons] at ht
      rcases ht with rfl | ht
      · exact b4
      · exact a5 t ht
end
mutual
theorem lv_fin : ∀ d : D, fin d = true → lv d = true
  | .tup l, h => by simp only [lv]; exact lvL_fin l (by simpa only [fin] using h)
  | .lst l, h => by simp only [lv]; exact lvL_fin l (by simpa only [fin] using h)
  | .non, h => rfl
  | .bl _, h => rfl
  | .int _, h => rfl
  | .str s, h => List.all_eq_true.mp leafs_lv _ (leaf_mem (by simpa only [fin] using h))
  | .dk _ _, h => by simp [fin] at h
  | .dt _ _, h => by simp [fin] at h
  | .exc _, h => by simp [fin] at h
  | .scr _, h => by simp [fin] at h
  | .fnc _, h => by simp [fin] at h
theorem lvL_fin : ∀ l : List D, finL l = true → lvL l = true
  | [], _ => rfl
  | d :: l, h => by
    simp only [finL, Bool.and_eq_true] at h
    simp only [lvL, Bool.and_eq_true]
    exact ⟨lv_fin d h.1, lvL_fin l h.2⟩
end
mutual
theorem size_wt : ∀ d : D, d.size ≤ wt d
  | .tup l => by have := sizeL_wt l; simp only [D.size, wt]; omega
  | .lst l => by have := sizeL_wt l; simp only [D.size, wt]; omega
  | .non => by simp [D.size, wt]
  | .bl _ => by simp [D.size, wt]
  | .int _ => by simp [D.size, wt]
  | .str _ => by simp [D.size, wt]
  | .dk _ _ => by simp [D.size, wt]
  | .dt _ _ => by simp [D.size, wt]
  | .exc _ => by simp [D.size, wt]
  | .scr _ => by simp [D.size, wt]
  | .fnc _ => by simp [D.size, wt]
theorem sizeL_wt : ∀ l : List D, sizeL l ≤ wtL l
  | [] => by simp [sizeL, wtL]
  | d :: l => by
    have := size_wt d
    have := sizeL_wt l
    simp only [sizeL, wtL]
    omega
end
theorem ne_str {s : Str} (h : PyData.strOk s = true) : gNe [.str s, .str s] = some (.val (.bl false)) := by
  show (if SeqAt.shaped (.str s) = true ∧ SeqAt.shaped (.str s) = true then some (Rs.val (.bl (!PyData.eqv (.str s) (.str s)))) else none) = _
  simp [SeqAt.shaped, PyData.eqv, PyData.canLay0, PyData.depth, h]
theorem rep_ok {d : D} (h : fin d = true) (hk : dep d ≤ 100) (hw : wt d ≤ 1000000) : ∃ s, gRep [d] = some (.val (.str s)) ∧ PyData.strOk s = true := by
  obtain ⟨x, e, b1, b2, b3, b4⟩ := shw d h
  exact ⟨x.shown, by show (d.py.bind _) = _; rw [e]; exact if_pos ⟨b1, by omega, by omega⟩, b4⟩
end K5

set_option Elab.async false
set_option linter.all false
set_option maxRecDepth 100000
set_option maxHeartbeats 8000000
namespace K5
open PySem PySem.Spec PyProof.Rows L2 Q
/-! ### sayings -/
inductive Sy where
  | yes | no | note | is (i j : Int) | put (i j : Int) | thn (a b : Sy) | eit (a b : Sy) | aga (a : Sy) | nt (a : Sy)
def Sy.d : Sy → D
  | .yes => .tup [.str "yes"]
  | .no => .tup [.str "no"]
  | .note => .tup [.str "note"]
  | .is i j => .tup [.str "is", .int i, .int j]
  | .put i j => .tup [.str "put", .int i, .int j]
  | .thn a b => .tup [.str "then", a.d, b.d]
  | .eit a b => .tup [.str "either", a.d, b.d]
  | .aga a => .tup [.str "again", a.d]
  | .nt a => .tup [.str "not", a.d]
theorem w1 : wd "yes" = .yes := by decide +kernel
theorem w2 : wd "no" = .no := by decide +kernel
theorem w3 : wd "note" = .note := by decide +kernel
theorem w4 : wd "is" = .is := by decide +kernel
theorem w5 : wd "put" = .put := by decide +kernel
theorem w6 : wd "then" = .thn := by decide +kernel
theorem w7 : wd "either" = .eit := by decide +kernel
theorem w8 : wd "again" = .aga := by decide +kernel
theorem w9 : wd "not" = .nt := by decide +kernel
theorem so1 : PyData.strOk ("yes" : Str) = true := by decide +kernel
theorem so2 : PyData.strOk ("no" : Str) = true := by decide +kernel
theorem so6 : PyData.strOk ("then" : Str) = true := by decide +kernel
theorem so7 : PyData.strOk ("either" : Str) = true := by decide +kernel
def okT (sh : List D) : Sy → Bool
  | .yes => true
  | .no => true
  | .is i j => vOK sh [.int i, .int j]
  | .thn a b => okT sh a && okT sh b
  | .eit a b => okT sh a && okT sh b
  | .nt a => okT sh a
  | _ => false
def okS (sh : List D) : Sy → Bool
  | .yes => true
  | .no => true
  | .note => true
  | .is i j => vOK sh [.int i, .int j]
  | .put i j => vOK sh [.int i, .int j]
  | .thn a b => okS sh a && okS sh b
  | .eit a b => okS sh a && okS sh b
  | .aga a => okS sh a
  | .nt a => okT sh a
def notes : Sy → Nat
  | .note => 1
  | .thn a b => notes a + notes b
  | .eit a b => notes a + notes b
  | .aga a => notes a
  | _ => 0
def sz : Sy → Nat
  | .thn a b => sz a + sz b + 1
  | .eit a b => sz a + sz b + 1
  | .aga a => sz a + 1
  | .nt a => sz a + 1
  | _ => 1
def hgt : Sy → Nat
  | .thn a b => max (hgt a) (hgt b) + 1
  | .eit a b => max (hgt a) (hgt b) + 1
  | .aga a => hgt a + 1
  | .nt a => hgt a + 1
  | _ => 1
theorem tst_d {sh : List D} : ∀ s : Sy, okT sh s = true → tst sh s.d = true
  | .yes, _ => by simp [Sy.d, tst, w1]
  | .no, _ => by simp [Sy.d, tst, w2]
  | .note, h => by simp [okT] at h
  | .is i j, h => by simpa [Sy.d, tst, w4, okT] using h
  | .put i j, h => by simp [okT] at h
  | .thn a b, h => by
    simp only [okT, Bool.and_eq_true] at h
    simp [Sy.d, tst, tstL, w6, tst_d a h.1, tst_d b h.2]
  | .eit a b, h => by
    simp only [okT, Bool.and_eq_true] at h
    simp [Sy.d, tst, tstL, w7, tst_d a h.1, tst_d b h.2]
  | .aga a, h => by simp [okT] at h
  | .nt a, h => by
    simp only [okT] at h
    simp [Sy.d, tst, tstL, w9, tst_d a h]
theorem ntd_d {sh : List D} : ∀ s : Sy, okS sh s = true → ntd sh s.d = notes s
  | .yes, _ => by simp [Sy.d, ntd, tst, w1, notes]
  | .no, _ => by simp [Sy.d, ntd, tst, w2, notes]
  | .note, _ => by simp [Sy.d, ntd, w3, notes]
  | .is i j, h => by
    simp only [okS] at h
    simp [Sy.d, ntd, tst, w4, notes, h]
  | .put i j, h => by
    simp only [okS] at h
    simp [Sy.d, ntd, w5, notes, h]
  | .thn a b, h => by
    simp only [okS, Bool.and_eq_true] at h
    simp [Sy.d, ntd, ntdL, w6, notes, ntd_d a h.1, ntd_d b h.2]
  | .eit a b, h => by
    simp only [okS, Bool.and_eq_true] at h
    simp [Sy.d, ntd, ntdL, w7, notes, ntd_d a h.1, ntd_d b h.2]
  | .aga a, h => by
    simp only [okS] at h
    simp [Sy.d, ntd, ntdL, w8, notes, ntd_d a h]
  | .nt a, h => by
    simp only [okS] at h
    simp [Sy.d, ntd, tst, tstL, w9, notes, tst_d a h]
theorem sz_size : ∀ s : Sy, sz s ≤ s.d.size
  | .yes => by simp [sz, Sy.d, D.size, sizeL]
  | .no => by simp [sz, Sy.d, D.size, sizeL]
  | .note => by simp [sz, Sy.d, D.size, sizeL]
  | .is i j => by simp [sz, Sy.d, D.size, sizeL]
  | .put i j => by simp [sz, Sy.d, D.size, sizeL]
  | .thn a b => by have := sz_size a; have := sz_size b; simp only [sz, Sy.d, D.size, sizeL]; omega
  | .eit a b => by have := sz_size a; have := sz_size b; simp only [sz, Sy.d, D.size, sizeL]; omega
  | .aga a => by have := sz_size a; simp only [sz, Sy.d, D.size, sizeL]; omega
  | .nt a => by have := sz_size a; simp only [sz, Sy.d, D.size, sizeL]; omega
theorem vOK_small {sh : List D} {i j : Int} (hs : GSh sh) (h : vOK sh [.int i, .int j] = true) : 0 ≤ i ∧ i < 3 ∧ 0 ≤ j ∧ j < 4 ∧ i < sh.length := by
  obtain ⟨l, rfl, hx, h1, h3, _⟩ := hs.ex
  simp only [vOK, Bool.and_eq_true, decide_eq_true_eq] at h
  obtain ⟨h0, h⟩ := h
  split at h
  · rename_i n e
    rw [List.getElem?_map] at e
    obtain ⟨m, e1, e2⟩ := Option.map_eq_some_iff.mp e
    cases e2
    have hi := (List.getElem?_eq_some_iff.mp e1).1
    have := hx n (List.mem_of_getElem? e1)
    simp only [blw, decide_eq_true_eq] at h
    rw [List.length_map]
    omega
  · cases h
theorem fin_i {i : Int} (h0 : 0 ≤ i) (h4 : i < 4) : fin (.int i) = true := by simp [fin, leaf]; omega
theorem fl1 : fin (.str "yes") = true := by decide +kernel
theorem fl2 : fin (.str "no") = true := by decide +kernel
theorem fl3 : fin (.str "note") = true := by decide +kernel
theorem fl4 : fin (.str "is") = true := by decide +kernel
theorem fl5 : fin (.str "put") = true := by decide +kernel
theorem fl6 : fin (.str "then") = true := by decide +kernel
theorem fl7 : fin (.str "either") = true := by decide +kernel
theorem fl8 : fin (.str "again") = true := by decide +kernel
theorem fl9 : fin (.str "not") = true := by decide +kernel
theorem fin_t1 {a : D} (h : fin a = true) : fin (.tup [a]) = true := by simp only [fin, finL, h]; rfl
theorem fin_t2 {a b : D} (h : fin a = true) (h2 : fin b = true) : fin (.tup [a, b]) = true := by simp only [fin, finL, h, h2]; rfl
theorem fin_t3 {a b c : D} (h : fin a = true) (h2 : fin b = true) (h3 : fin c = true) : fin (.tup [a, b, c]) = true := by simp only [fin, finL, h, h2, h3]; rfl
theorem fin_T {sh : List D} (hs : GSh sh) : ∀ s : Sy, okT sh s = true → fin s.d = true
  | .yes, _ => fin_t1 fl1
  | .no, _ => fin_t1 fl2
  | .note, h => by simp [okT] at h
  | .is i j, h => by
    obtain ⟨a, b, c, e, _⟩ := vOK_small hs (show vOK sh [.int i, .int j] = true from h)
    exact fin_t3 fl4 (fin_i a (by omega)) (fin_i c e)
  | .put i j, h => by simp [okT] at h
  | .thn a b, h => by simp only [okT, Bool.and_eq_true] at h; exact fin_t3 fl6 (fin_T hs a h.1) (fin_T hs b h.2)
  | .eit a b, h => by simp only [okT, Bool.and_eq_true] at h; exact fin_t3 fl7 (fin_T hs a h.1) (fin_T hs b h.2)
  | .aga a, h => by simp [okT] at h
  | .nt a, h => by simp only [okT] at h; exact fin_t2 fl9 (fin_T hs a h)
theorem fin_S {sh : List D} (hs : GSh sh) : ∀ s : Sy, okS sh s = true → fin s.d = true
  | .yes, _ => fin_t1 fl1
  | .no, _ => fin_t1 fl2
  | .note, h => fin_t1 fl3
  | .is i j, h => by
    obtain ⟨a, b, c, e, _⟩ := vOK_small hs (show vOK sh [.int i, .int j] = true from h)
    exact fin_t3 fl4 (fin_i a (by omega)) (fin_i c e)
  | .put i j, h => by
    obtain ⟨a, b, c, e, _⟩ := vOK_small hs (show vOK sh [.int i, .int j] = true from h)
    exact fin_t3 fl5 (fin_i a (by omega)) (fin_i c e)
  | .thn a b, h => by simp only [okS, Bool.and_eq_true] at h; exact fin_t3 fl6 (fin_S hs a h.1) (fin_S hs b h.2)
  | .eit a b, h => by simp only [okS, Bool.and_eq_true] at h; exact fin_t3 fl7 (fin_S hs a h.1) (fin_S hs b h.2)
  | .aga a, h => by simp only [okS] at h; exact fin_t2 fl8 (fin_S hs a h)
  | .nt a, h => by simp only [okS] at h; exact fin_t2 fl9 (fin_T hs a h)
theorem dep_d : ∀ s : Sy, dep s.d ≤ hgt s
  | .yes => by simp [Sy.d, dep, depL, hgt]
  | .no => by simp [Sy.d, dep, depL, hgt]
  | .note => by simp [Sy.d, dep, depL, hgt]
  | .is i j => by simp [Sy.d, dep, depL, hgt]
  | .put i j => by simp [Sy.d, dep, depL, hgt]
  | .thn a b => by have := dep_d a; have := dep_d b; simp only [Sy.d, dep, depL, hgt]; omega
  | .eit a b => by have := dep_d a; have := dep_d b; simp only [Sy.d, dep, depL, hgt]; omega
  | .aga a => by have := dep_d a; simp only [Sy.d, dep, depL, hgt]; omega
  | .nt a => by have := dep_d a; simp only [Sy.d, dep, depL, hgt]; omega
theorem wt_d : ∀ s : Sy, wt s.d ≤ 320 * sz s
  | .yes => by simp [Sy.d, wt, wtL, sz]
  | .no => by simp [Sy.d, wt, wtL, sz]
  | .note => by simp [Sy.d, wt, wtL, sz]
  | .is i j => by simp [Sy.d, wt, wtL, sz]
  | .put i j => by simp [Sy.d, wt, wtL, sz]
  | .thn a b => by have := wt_d a; have := wt_d b; simp only [Sy.d, wt, wtL, sz]; omega
  | .eit a b => by have := wt_d a; have := wt_d b; simp only [Sy.d, wt, wtL, sz]; omega
  | .aga a => by have := wt_d a; simp only [Sy.d, wt, wtL, sz]; omega
  | .nt a => by have := wt_d a; simp only [Sy.d, wt, wtL, sz]; omega
/-! ### turned -/
def shv (sh : List D) (i : Int) : Nat := match sh[i.toNat]? with
  | some (.int n) => n.toNat
  | _ => 1
def puts (i : Int) : Nat → Nat → Sy
  | k, 0 => .put i k
  | k, m + 1 => .eit (.put i k) (puts i (k + 1) m)
def due (sh : List D) : Sy → Sy
  | .put i j => .thn (.is i j) (puts i 0 (shv sh i - 1))
  | .thn a b => .thn (due sh b) (due sh a)
  | .eit a b => .eit (due sh a) (due sh b)
  | .aga a => .aga (due sh a)
  | s => s
theorem shv_ok {sh : List D} {i j : Int} (hs : GSh sh) (h : vOK sh [.int i, .int j] = true) : ∃ n : Int, 1 ≤ n ∧ n ≤ 4 ∧ sh[i.toNat]? = some (.int n) ∧ shv sh i = n.toNat ∧ 0 ≤ i ∧ atI sh i = some (.int n) := by
  obtain ⟨a, b, c, e, f⟩ := vOK_small hs h
  obtain ⟨l, rfl, hx, h1, h3, _⟩ := hs.ex
  rw [List.length_map] at f
  have hi : i.toNat < l.length := by omega
  have hg : (l.map D.int)[i.toNat]? = some (.int l[i.toNat]) := by rw [List.getElem?_map, List.getElem?_eq_getElem hi]; rfl
  obtain ⟨m1, m4⟩ := hx l[i.toNat] (List.getElem_mem hi)
  exact ⟨l[i.toNat], m1, m4, hg, by simp only [shv, hg], a, by rw [atN a (by rw [List.length_map]; exact f)]; exact hg⟩
theorem puts_ok {sh : List D} {i : Int} {n : Int} (h : sh[i.toNat]? = some (.int n)) (h0 : 0 ≤ i) : ∀ m k : Nat, (k : Int) + m < n → okS sh (puts i k m) = true
  | 0, k, hk => by simp only [puts, okS, vOK, h, blw]; simp [h0]; omega
  | m + 1, k, hk => by
    simp only [puts, okS, Bool.and_eq_true]
    refine ⟨?_, puts_ok h h0 m (k + 1) (by omega)⟩
    simp only [vOK, h, blw]
    simp [h0]
    omega
theorem puts_notes (i : Int) : ∀ m k : Nat, notes (puts i k m) = 0
  | 0, k => rfl
  | m + 1, k => by simp [puts, notes, puts_notes i m (k + 1)]
theorem puts_sz (i : Int) : ∀ m k : Nat, sz (puts i k m) = 2 * m + 1
  | 0, k => rfl
  | m + 1, k => by simp only [puts, sz, puts_sz i m (k + 1)]; omega
theorem puts_hgt (i : Int) : ∀ m k : Nat, hgt (puts i k m) ≤ m + 1
  | 0, k => by simp [puts, hgt]
  | m + 1, k => by have := puts_hgt i m (k + 1); simp only [puts, hgt]; omega
theorem due_ok {sh : List D} (hs : GSh sh) : ∀ s : Sy, okS sh s = true → okS sh (due sh s) = true ∧ notes (due sh s) = notes s ∧ sz (due sh s) ≤ 9 * sz s ∧ hgt (due sh s) ≤ hgt s + 5
  | .yes, h => ⟨h, rfl, by simp [due, sz], by simp [due, hgt]⟩
  | .no, h => ⟨h, rfl, by simp [due, sz], by simp [due, hgt]⟩
  | .note, h => ⟨h, rfl, by simp [due, sz], by simp [due, hgt]⟩
  | .is i j, h => ⟨h, rfl, by simp [due, sz], by simp [due, hgt]⟩
  | .put i j, h => by
    have h' : vOK sh [.int i, .int j] = true := h
    obtain ⟨n, n1, n4, e1, e2, i0, _⟩ := shv_ok hs h'
    have p1 := puts_ok e1 i0 (shv sh i - 1) 0 (by rw [e2]; omega)
    have p2 := puts_notes i (shv sh i - 1) 0
    have p3 := puts_sz i (shv sh i - 1) 0
    have p4 := puts_hgt i (shv sh i - 1) 0
    refine ⟨?_, ?_, ?_, ?_⟩
    · simp only [due, okS, Bool.and_eq_true]; exact ⟨h', p1⟩
    · simp only [due, notes, p2]
    · simp only [due, sz, p3]; omega
    · simp only [due, hgt]; omega
  | .thn a b, h => by
    simp only [okS, Bool.and_eq_true] at h
    obtain ⟨a1, a2, a3, a4⟩ := due_ok hs a h.1
    obtain ⟨b1, b2, b3, b4⟩ := due_ok hs b h.2
    exact ⟨by simp only [due, okS, Bool.and_eq_true]; exact ⟨b1, a1⟩, by simp only [due, notes]; omega, by simp only [due, sz]; omega, by simp only [due, hgt]; omega⟩
  | .eit a b, h => by
    simp only [okS, Bool.and_eq_true] at h
    obtain ⟨a1, a2, a3, a4⟩ := due_ok hs a h.1
    obtain ⟨b1, b2, b3, b4⟩ := due_ok hs b h.2
    exact ⟨by simp only [due, okS, Bool.and_eq_true]; exact ⟨a1, b1⟩, by simp only [due, notes]; omega, by simp only [due, sz]; omega, by simp only [due, hgt]; omega⟩
  | .aga a, h => by
    simp only [okS] at h
    obtain ⟨a1, a2, a3, a4⟩ := due_ok hs a h
    exact ⟨by simp only [due, okS]; exact a1, by simp only [due, notes]; omega, by simp only [due, sz]; omega, by simp only [due, hgt]; omega⟩
  | .nt a, h => ⟨h, rfl, by simp only [due, sz]; omega, by simp only [due, hgt]; omega⟩
end K5

set_option Elab.async false
set_option linter.all false
set_option maxRecDepth 100000
set_option maxHeartbeats 8000000
namespace K5
open PySem PySem.Spec PyProof.Rows L2 Q
theorem fzs_data (M : List D) : T.data (.ls (M.map .fz)) = some (.lst M) := by
  show (dataL _).map D.lst = _
  rw [dataL_fz]
  rfl
theorem v_check_saying {Z : Zs} {sh : List D} {s : Sy} (hs : GSh sh) (h : okS sh s = true) (hn : notes s ≤ 5) (hz : sz s ≤ 2800) : fn_check_saying Z [.fz (.tup sh), .fz s.d] = some (.ret (.fz .non), [.fz (.tup sh), .fz s.d]) := by
  have hl := lv_fin _ (fin_S hs s h)
  have hsz : s.d.size ≤ 900000 := Nat.le_trans (size_wt _) (Nat.le_trans (wt_d s) (by omega))
  have hv := v_is_saying (Z := Z) hs hl hsz
  have e : decide (ntd sh s.d < 6) = true := decide_eq_true (by rw [ntd_d s h]; omega)
  rw [e] at hv
  simp [fn_check_saying, b_check_saying, fnD, dRet, xLift, dBool, dAnd, dOr, dNot, dBl, dSh, dIsi, dVar, share, T.data, D.isi, D.bool, retW, outP, keepP, dSeq, dIf, xbLift, dC, dOp, dWith, fdCons, fdNil, D.items, Rs.w, dChain, gLe, gLt, gGt, gGe, gRI0, gRI, gAdd, gSubI, dAsg, mv, gdName, dDrop, dCallX, dCall, daCons, daNil, pars, back, putBack, resW, dIfE, dNext, dRaise, dItemsT, dItemsL, dFor, dLift, W.tm, dTru, truth, isFz, dAug, gMul1, dScal, dScalT, T.frz, D.scal, dUn, gNeg, gTupD, gLstD, xNot, xBl, gIx, dSl, gSlT, pAt, pNo, dMv, gInt, dInR, hv]
def kids : Sy → List Sy
  | .thn a b => [a, b]
  | .eit a b => [a, b]
  | .aga a => [a]
  | _ => []
def pre : Sy → List D
  | .thn a b => Sy.d (.thn a b) :: (pre a ++ pre b)
  | .eit a b => Sy.d (.eit a b) :: (pre a ++ pre b)
  | .aga a => Sy.d (.aga a) :: pre a
  | s => [s.d]
theorem pre_kids (s : Sy) : pre s = s.d :: (kids s).flatMap pre := by
  cases s <;> simp [pre, kids]
theorem v_turned_inner (s : Sy) : fn_turned_inner [.fz s.d] = some (.ret (.fz (.tup ((kids s).map Sy.d))), [.fz s.d]) := by
  have ip := fun (w : Str) (l : List D) => v_inner_parts (w := w) (l := l)
  cases s with
  | yes => have := ip "yes" []; simp [inn, w1] at this; simp [fn_turned_inner, b_turned_inner, fnD, dRet, xLift, dBool, dAnd, dOr, dNot, dBl, dSh, dIsi, dVar, share, T.data, D.isi, D.bool, retW, outP, keepP, dSeq, dIf, xbLift, dC, dOp, dWith, fdCons, fdNil, D.items, Rs.w, dChain, gLe, gLt, gGt, gGe, gRI0, gRI, gAdd, gSubI, dAsg, mv, gdName, dDrop, dCallX, dCall, daCons, daNil, pars, back, putBack, resW, dIfE, dNext, dRaise, dItemsT, dItemsL, dFor, dLift, W.tm, dTru, truth, isFz, dAug, gMul1, dScal, dScalT, T.frz, D.scal, dUn, gNeg, gTupD, gLstD, xNot, xBl, gIx, dSl, gSlT, pAt, pNo, dMv, gInt, dInR, Sy.d, at0, q_not so1, w1, this, kids]
  | no => have := ip "no" []; simp [inn, w2] at this; simp [fn_turned_inner, b_turned_inner, fnD, dRet, xLift, dBool, dAnd, dOr, dNot, dBl, dSh, dIsi, dVar, share, T.data, D.isi, D.bool, retW, outP, keepP, dSeq, dIf, xbLift, dC, dOp, dWith, fdCons, fdNil, D.items, Rs.w, dChain, gLe, gLt, gGt, gGe, gRI0, gRI, gAdd, gSubI, dAsg, mv, gdName, dDrop, dCallX, dCall, daCons, daNil, pars, back, putBack, resW, dIfE, dNext, dRaise, dItemsT, dItemsL, dFor, dLift, W.tm, dTru, truth, isFz, dAug, gMul1, dScal, dScalT, T.frz, D.scal, dUn, gNeg, gTupD, gLstD, xNot, xBl, gIx, dSl, gSlT, pAt, pNo, dMv, gInt, dInR, Sy.d, at0, q_not so2, w2, this, kids]
  | note => have := ip "note" []; simp [inn, w3] at this; simp [fn_turned_inner, b_turned_inner, fnD, dRet, xLift, dBool, dAnd, dOr, dNot, dBl, dSh, dIsi, dVar, share, T.data, D.isi, D.bool, retW, outP, keepP, dSeq, dIf, xbLift, dC, dOp, dWith, fdCons, fdNil, D.items, Rs.w, dChain, gLe, gLt, gGt, gGe, gRI0, gRI, gAdd, gSubI, dAsg, mv, gdName, dDrop, dCallX, dCall, daCons, daNil, pars, back, putBack, resW, dIfE, dNext, dRaise, dItemsT, dItemsL, dFor, dLift, W.tm, dTru, truth, isFz, dAug, gMul1, dScal, dScalT, T.frz, D.scal, dUn, gNeg, gTupD, gLstD, xNot, xBl, gIx, dSl, gSlT, pAt, pNo, dMv, gInt, dInR, Sy.d, at0, q_not so_note, w3, this, kids]
  | is i j => have := ip "is" [.int i, .int j]; simp [inn, w4] at this; simp [fn_turned_inner, b_turned_inner, fnD, dRet, xLift, dBool, dAnd, dOr, dNot, dBl, dSh, dIsi, dVar, share, T.data, D.isi, D.bool, retW, outP, keepP, dSeq, dIf, xbLift, dC, dOp, dWith, fdCons, fdNil, D.items, Rs.w, dChain, gLe, gLt, gGt, gGe, gRI0, gRI, gAdd, gSubI, dAsg, mv, gdName, dDrop, dCallX, dCall, daCons, daNil, pars, back, putBack, resW, dIfE, dNext, dRaise, dItemsT, dItemsL, dFor, dLift, W.tm, dTru, truth, isFz, dAug, gMul1, dScal, dScalT, T.frz, D.scal, dUn, gNeg, gTupD, gLstD, xNot, xBl, gIx, dSl, gSlT, pAt, pNo, dMv, gInt, dInR, Sy.d, at0, q_not so_is, w4, this, kids]
  | put i j => have := ip "put" [.int i, .int j]; simp [inn, w5] at this; simp [fn_turned_inner, b_turned_inner, fnD, dRet, xLift, dBool, dAnd, dOr, dNot, dBl, dSh, dIsi, dVar, share, T.data, D.isi, D.bool, retW, outP, keepP, dSeq, dIf, xbLift, dC, dOp, dWith, fdCons, fdNil, D.items, Rs.w, dChain, gLe, gLt, gGt, gGe, gRI0, gRI, gAdd, gSubI, dAsg, mv, gdName, dDrop, dCallX, dCall, daCons, daNil, pars, back, putBack, resW, dIfE, dNext, dRaise, dItemsT, dItemsL, dFor, dLift, W.tm, dTru, truth, isFz, dAug, gMul1, dScal, dScalT, T.frz, D.scal, dUn, gNeg, gTupD, gLstD, xNot, xBl, gIx, dSl, gSlT, pAt, pNo, dMv, gInt, dInR, Sy.d, at0, q_not so_put, w5, this, kids]
  | thn a b => have := ip "then" [a.d, b.d]; simp [inn, w6] at this; simp [fn_turned_inner, b_turned_inner, fnD, dRet, xLift, dBool, dAnd, dOr, dNot, dBl, dSh, dIsi, dVar, share, T.data, D.isi, D.bool, retW, outP, keepP, dSeq, dIf, xbLift, dC, dOp, dWith, fdCons, fdNil, D.items, Rs.w, dChain, gLe, gLt, gGt, gGe, gRI0, gRI, gAdd, gSubI, dAsg, mv, gdName, dDrop, dCallX, dCall, daCons, daNil, pars, back, putBack, resW, dIfE, dNext, dRaise, dItemsT, dItemsL, dFor, dLift, W.tm, dTru, truth, isFz, dAug, gMul1, dScal, dScalT, T.frz, D.scal, dUn, gNeg, gTupD, gLstD, xNot, xBl, gIx, dSl, gSlT, pAt, pNo, dMv, gInt, dInR, Sy.d, at0, q_not so6, w6, this, kids]
  | eit a b => have := ip "either" [a.d, b.d]; simp [inn, w7] at this; simp [fn_turned_inner, b_turned_inner, fnD, dRet, xLift, dBool, dAnd, dOr, dNot, dBl, dSh, dIsi, dVar, share, T.data, D.isi, D.bool, retW, outP, keepP, dSeq, dIf, xbLift, dC, dOp, dWith, fdCons, fdNil, D.items, Rs.w, dChain, gLe, gLt, gGt, gGe, gRI0, gRI, gAdd, gSubI, dAsg, mv, gdName, dDrop, dCallX, dCall, daCons, daNil, pars, back, putBack, resW, dIfE, dNext, dRaise, dItemsT, dItemsL, dFor, dLift, W.tm, dTru, truth, isFz, dAug, gMul1, dScal, dScalT, T.frz, D.scal, dUn, gNeg, gTupD, gLstD, xNot, xBl, gIx, dSl, gSlT, pAt, pNo, dMv, gInt, dInR, Sy.d, at0, q_not so7, w7, this, kids]
  | aga a => have := ip "again" [a.d]; simp [inn, w8] at this; simp [fn_turned_inner, b_turned_inner, fnD, dRet, xLift, dBool, dAnd, dOr, dNot, dBl, dSh, dIsi, dVar, share, T.data, D.isi, D.bool, retW, outP, keepP, dSeq, dIf, xbLift, dC, dOp, dWith, fdCons, fdNil, D.items, Rs.w, dChain, gLe, gLt, gGt, gGe, gRI0, gRI, gAdd, gSubI, dAsg, mv, gdName, dDrop, dCallX, dCall, daCons, daNil, pars, back, putBack, resW, dIfE, dNext, dRaise, dItemsT, dItemsL, dFor, dLift, W.tm, dTru, truth, isFz, dAug, gMul1, dScal, dScalT, T.frz, D.scal, dUn, gNeg, gTupD, gLstD, xNot, xBl, gIx, dSl, gSlT, pAt, pNo, dMv, gInt, dInR, Sy.d, at0, q_not so_again, w8, this, kids]
  | nt a => simp [fn_turned_inner, b_turned_inner, fnD, dRet, xLift, dBool, dAnd, dOr, dNot, dBl, dSh, dIsi, dVar, share, T.data, D.isi, D.bool, retW, outP, keepP, dSeq, dIf, xbLift, dC, dOp, dWith, fdCons, fdNil, D.items, Rs.w, dChain, gLe, gLt, gGt, gGe, gRI0, gRI, gAdd, gSubI, dAsg, mv, gdName, dDrop, dCallX, dCall, daCons, daNil, pars, back, putBack, resW, dIfE, dNext, dRaise, dItemsT, dItemsL, dFor, dLift, W.tm, dTru, truth, isFz, dAug, gMul1, dScal, dScalT, T.frz, D.scal, dUn, gNeg, gTupD, gLstD, xNot, xBl, gIx, dSl, gSlT, pAt, pNo, dMv, gInt, dInR, Sy.d, at0, q_not so_not, w9, kids]
/-! ### the parts in their order -/
def szW : List Sy → Nat
  | [] => 0
  | s :: l => sz s + szW l
theorem szW_app : ∀ a b, szW (a ++ b) = szW a + szW b
  | [], b => by simp [szW]
  | p :: a, b => by simp [szW, szW_app a b]; omega
theorem szW_rev : ∀ a, szW a.reverse = szW a
  | [] => rfl
  | p :: a => by rw [List.reverse_cons, szW_app, szW_rev a]; simp [szW]; omega
theorem sz_kids (s : Sy) : szW (kids s) < sz s := by
  cases s <;> simp [kids, szW, sz] <;> omega
abbrev fzd (W : List Sy) : List T := (W.map Sy.d).map .fz
abbrev testP : XB := xbLift (dScalT (dTru (dSh (dVar 3))))
def turnP (Z : Zs) : SD := (dSeq (dAsg (xLift (dPop 3)) (gdName 4))
    (dSeq (dDrop (xLift (dAppend 2 (dMv (dVar 4)))))
    (dDrop (xLift (dExtend 3 (dSh (dUn gRevT (dSh (dCallV 1 (tab_parts_by Z) (daCons (dVar 4) daNil))))))))))
theorem testP_val (l : List D) (a0 a1 a2 a4 : T) : testP [a0, a1, a2, .ls (l.map .fz), a4] = some (.inl (!l.isEmpty), [a0, a1, a2, .ls (l.map .fz), a4]) := by
  have h : (T.ls (l.map .fz)).frz = .fz (.lst l) := by unfold T.frz; rw [fzs_data]
  simp only [testP, xbLift, dScalT, List.map_cons, List.map_nil, h]
  simp [dTru, dSh, dVar, share, T.data, truth]
theorem turnP_ev {Z : Zs} {a0 a4 : T} {P : List D} {V0 : List Sy} {s : Sy} (hp : P.length < 900000) (hv : V0.length < 900000) : turnP Z [a0, .fz (.fnc Z.f_turned_inner), .ls (P.map .fz), .ls ((V0 ++ [s]).map Sy.d |>.map .fz), a4] = some (.nx [a0, .fz (.fnc Z.f_turned_inner), .ls ((P ++ [s.d]).map .fz), .ls ((V0 ++ (kids s).reverse).map Sy.d |>.map .fz), .fz s.d]) := by
  have hk : (kids s).length ≤ 2 := by cases s <;> simp [kids]
  have hi := v_turned_inner s
  have c1 : P.length < 1000000 := by omega
  have c2 : V0.length + (kids s).length ≤ 1000000 := by omega
  unfold turnP
  rw [seq_nx (r1 := [a0, .fz (.fnc Z.f_turned_inner), .ls (P.map .fz), .ls ((V0.map Sy.d).map .fz), .fz s.d]) (by
    simp [dAsg, xLift, dPop, resW, mv, share, gdName])]
  rw [seq_nx (r1 := [a0, .fz (.fnc Z.f_turned_inner), .ls ((P ++ [s.d]).map .fz), .ls ((V0.map Sy.d).map .fz), .fz s.d]) (by
    simp [fnD, dRet, xLift, dBool, dAnd, dOr, dNot, dBl, dSh, dIsi, dVar, share, T.data, D.isi, D.bool, retW, outP, keepP, dSeq, dIf, xbLift, dC, dOp, dWith, fdCons, fdNil, D.items, Rs.w, dChain, gLe, gLt, gGt, gGe, gRI0, gRI, gAdd, gSubI, dAsg, mv, gdName, dDrop, dCallX, dCall, daCons, daNil, pars, back, putBack, resW, dIfE, dNext, dRaise, dItemsT, dItemsL, dFor, dLift, W.tm, dTru, truth, isFz, dAug, gMul1, dScal, dScalT, T.frz, D.scal, dUn, gNeg, gTupD, gLstD, xNot, xBl, gIx, dSl, gSlT, pAt, pNo, dMv, gInt, dInR, dAppend, isLs, c1])]
  simp [fnD, dRet, xLift, dBool, dAnd, dOr, dNot, dBl, dSh, dIsi, dVar, share, T.data, D.isi, D.bool, retW, outP, keepP, dSeq, dIf, xbLift, dC, dOp, dWith, fdCons, fdNil, D.items, Rs.w, dChain, gLe, gLt, gGt, gGe, gRI0, gRI, gAdd, gSubI, dAsg, mv, gdName, dDrop, dCallX, dCall, daCons, daNil, pars, back, putBack, resW, dIfE, dNext, dRaise, dItemsT, dItemsL, dFor, dLift, W.tm, dTru, truth, isFz, dAug, gMul1, dScal, dScalT, T.frz, D.scal, dUn, gNeg, gTupD, gLstD, xNot, xBl, gIx, dSl, gSlT, pAt, pNo, dMv, gInt, dInR, dExtend, isLs, dCallV, tab_parts_by, hi, gRevT, c2]
theorem wlP {Z : Zs} (a0 : T) : ∀ (m : Nat) (V0 : List Sy) (P : List D) (a4 : T), szW V0 < m → P.length + szW V0 < 800000 → ∃ b4, whileD testP (turnP Z) m [a0, .fz (.fnc Z.f_turned_inner), .ls (P.map .fz), .ls ((V0.map Sy.d).map .fz), a4] = some (.nx [a0, .fz (.fnc Z.f_turned_inner), .ls ((P ++ V0.reverse.flatMap pre).map .fz), .ls [], b4]) := by
  intro m
  induction m with
  | zero => intro V0 P a4 h; omega
  | succ m ih =>
    intro V0 P a4 hm hb
    rcases List.eq_nil_or_concat V0 with rfl | ⟨V', s, rfl⟩
    · refine ⟨a4, ?_⟩
      have := testP_val [] a0 (.fz (.fnc Z.f_turned_inner)) (.ls (P.map .fz)) a4
      simp only [List.map_nil] at this
      simp only [whileD, List.map_nil, this, Option.bind_some]
      simp
    · rw [List.concat_eq_append] at *
      rw [szW_app] at hm hb
      simp only [szW, Nat.add_zero] at hm hb
      have hk := sz_kids s
      have hvl : V'.length ≤ szW V' := by
        have : ∀ l : List Sy, l.length ≤ szW l := by
          intro l
          induction l with
          | nil => simp [szW]
          | cons a l ih =>
            have : 1 ≤ sz a := by cases a <;> simp [sz]
            simp only [List.length_cons, szW]
            omega
        exact this V'
      have te := turnP_ev (Z := Z) (a0 := a0) (a4 := a4) (P := P) (V0 := V') (s := s) (by omega) (by omega)
      obtain ⟨b4, h⟩ := ih (V' ++ (kids s).reverse) (P ++ [s.d]) (.fz s.d) (by rw [szW_app, szW_rev]; omega) (by rw [szW_app, szW_rev]; simp; omega)
      refine ⟨b4, ?_⟩
      have tv := testP_val ((V' ++ [s]).map Sy.d) a0 (.fz (.fnc Z.f_turned_inner)) (.ls (P.map .fz)) a4
      have ne : (!((V' ++ [s]).map Sy.d).isEmpty) = true := by simp
      rw [ne] at tv
      conv => lhs; unfold whileD
      simp only [tv, Option.bind_some, te]
      rw [h]
      congr 3
      have e : (V' ++ [s]).reverse.flatMap pre = s.d :: ((kids s).flatMap pre ++ V'.reverse.flatMap pre) := by
        simp [List.flatMap_cons, pre_kids s]
      rw [e]
      simp [List.flatMap_append]
theorem v_parts_by {Z : Zs} {s : Sy} (hz : sz s ≤ 700000) : fn_parts_by Z [.fz s.d, .fz (.fnc Z.f_turned_inner)] = some (.ret (.ls ((pre s).map .fz)), [.fz s.d, .fz (.fnc Z.f_turned_inner)]) := by
  have fu : fuel_parts_by_1 [.fz s.d, .fz (.fnc Z.f_turned_inner), .ls [], .ls [.fz s.d], .un] = s.d.size + 1 + 1 := by
    simp [fuel_parts_by_1, sizeAt, T.data, dataL, D.size, sizeL]
  have hsz := sz_size s
  obtain ⟨b4, h⟩ := wlP (Z := Z) (.fz s.d) (s.d.size + 1 + 1) [s] [] .un (by simp only [szW]; omega) (by simp only [szW, List.length_nil]; omega)
  simp only [List.map_cons, List.map_nil, List.nil_append, List.reverse_cons, List.reverse_nil, List.flatMap_cons, List.flatMap_nil, List.append_nil] at h
  have key : b_parts_by Z [.fz s.d, .fz (.fnc Z.f_turned_inner), .un, .un, .un] = some (.rt (.pl 2) [.fz s.d, .fz (.fnc Z.f_turned_inner), .ls ((pre s).map .fz), .ls [], b4]) := by
    unfold b_parts_by
    rw [seq_nx (r1 := [.fz s.d, .fz (.fnc Z.f_turned_inner), .ls [], .un, .un]) (by simp [fnD, dRet, xLift, dBool, dAnd, dOr, dNot, dBl, dSh, dIsi, dVar, share, T.data, D.isi, D.bool, retW, outP, keepP, dSeq, dIf, xbLift, dC, dOp, dWith, fdCons, fdNil, D.items, Rs.w, dChain, gLe, gLt, gGt, gGe, gRI0, gRI, gAdd, gSubI, dAsg, mv, gdName, dDrop, dCallX, dCall, daCons, daNil, pars, back, putBack, resW, dIfE, dNext, dRaise, dItemsT, dItemsL, dFor, dLift, W.tm, dTru, truth, isFz, dAug, gMul1, dScal, dScalT, T.frz, D.scal, dUn, gNeg, gTupD, gLstD, xNot, xBl, gIx, dSl, gSlT, pAt, pNo, dMv, gInt, dInR])]
    rw [seq_nx (r1 := [.fz s.d, .fz (.fnc Z.f_turned_inner), .ls [], .ls [.fz s.d], .un]) (by simp [fnD, dRet, xLift, dBool, dAnd, dOr, dNot, dBl, dSh, dIsi, dVar, share, T.data, D.isi, D.bool, retW, outP, keepP, dSeq, dIf, xbLift, dC, dOp, dWith, fdCons, fdNil, D.items, Rs.w, dChain, gLe, gLt, gGt, gGe, gRI0, gRI, gAdd, gSubI, dAsg, mv, gdName, dDrop, dCallX, dCall, daCons, daNil, pars, back, putBack, resW, dIfE, dNext, dRaise, dItemsT, dItemsL, dFor, dLift, W.tm, dTru, truth, isFz, dAug, gMul1, dScal, dScalT, T.frz, D.scal, dUn, gNeg, gTupD, gLstD, xNot, xBl, gIx, dSl, gSlT, pAt, pNo, dMv, gInt, dInR])]
    have hw : dWhile fuel_parts_by_1 testP (turnP Z) [.fz s.d, .fz (.fnc Z.f_turned_inner), .ls [], .ls [.fz s.d], .un] = some (.nx [.fz s.d, .fz (.fnc Z.f_turned_inner), .ls ((pre s).map .fz), .ls [], b4]) := by
      unfold dWhile
      rw [fu]
      exact h
    change dSeq (dWhile fuel_parts_by_1 testP (turnP Z)) _ _ = _
    rw [seq_nx hw]
    rfl
  show fnD 2 5 [true, true] (b_parts_by Z) _ = _
  unfold fnD
  rw [if_pos (by rfl)]
  show ((b_parts_by Z [.fz s.d, .fz (.fnc Z.f_turned_inner), .un, .un, .un]).bind _) = _
  rw [key]
  rfl
end K5

set_option Elab.async false
set_option linter.all false
set_option maxRecDepth 100000
set_option maxHeartbeats 8000000
namespace K5
open PySem PySem.Spec PyProof.Rows L2 Q
theorem q_then {w : Str} (h : PyData.strOk w = true) : gEq [.str w, .str "then"] = some (.val (.bl (decide (wd w = .thn)))) := by rw [eq_str h so6, e6]
theorem q_either {w : Str} (h : PyData.strOk w = true) : gEq [.str w, .str "either"] = some (.val (.bl (decide (wd w = .eit)))) := by rw [eq_str h so7, e7]
theorem in_te (w : Str) : gIn true [.str w, .tup [.str "then", .str "either"]] = some (.val (.bl (!decide (wd w = .thn ∨ wd w = .eit)))) := by
  unfold gIn
  simp only [D.items, Option.bind_some, D.scal, List.all_cons, List.all_nil, Bool.and_self, and_self, if_true, List.any_cons, List.any_nil, D.eqF, f6, f7, Bool.or_false, Bool.decide_or]
def turnT : SD := (dAsg (xLift (dWith (fdCons (dSh (dVar 0)) (fdCons (dSh (dVar 4)) (fdCons (dSh (dVar 3)) fdNil))) gTupD)) (gdName 3))
theorem loop_turn {w : D} {a1 a2 : T} : ∀ (l : List D) (z : D) (a4 : T), ∃ b4, loopD (gdName 4) turnT l [.fz w, a1, a2, .fz z, a4] = some (.nx [.fz w, a1, a2, .fz (l.foldl (fun z d => .tup [w, d, z]) z), b4])
  | [], z, a4 => ⟨a4, rfl⟩
  | d :: l, z, a4 => by
    obtain ⟨b4, h⟩ := loop_turn l (.tup [w, d, z]) (.fz d)
    refine ⟨b4, ?_⟩
    have st : turnT [.fz w, a1, a2, .fz z, .fz d] = some (.nx [.fz w, a1, a2, .fz (.tup [w, d, z]), .fz d]) := by simp [turnT, fnD, dRet, xLift, dBool, dAnd, dOr, dNot, dBl, dSh, dIsi, dVar, share, T.data, D.isi, D.bool, retW, outP, keepP, dSeq, dIf, xbLift, dC, dOp, dWith, fdCons, fdNil, D.items, Rs.w, dChain, gLe, gLt, gGt, gGe, gRI0, gRI, gAdd, gSubI, dAsg, mv, gdName, dDrop, dCallX, dCall, daCons, daNil, pars, back, putBack, resW, dIfE, dNext, dRaise, dItemsT, dItemsL, dFor, dLift, W.tm, dTru, truth, isFz, dAug, gMul1, dScal, dScalT, T.frz, D.scal, dUn, gNeg, gTupD, gLstD, xNot, xBl, gIx, dSl, gSlT, pAt, pNo, dMv, gInt, dInR]
    simp only [loopD, gdName, List.set_cons_succ, List.set_cons_zero, Option.bind_some, st]
    exact h
theorem v_in_turn {w z : D} {l : List D} : fn_in_turn [.fz w, .ls (l.map .fz), .fz z] = some (.ret (.fz (l.reverse.foldl (fun z d => .tup [w, d, z]) z)), [.fz w, .fz (.lst l), .fz z]) := by
  obtain ⟨b4, h⟩ := loop_turn (w := w) (a1 := .fz (.lst l)) (a2 := .fz z) l.reverse z .un
  have key : b_in_turn [.fz w, .ls (l.map .fz), .fz z, .un, .un] = some (.rt (.pl 3) [.fz w, .fz (.lst l), .fz z, .fz (l.reverse.foldl (fun z d => .tup [w, d, z]) z), b4]) := by
    unfold b_in_turn
    rw [seq_nx (r1 := [.fz w, .ls (l.map .fz), .fz z, .fz z, .un]) (by simp [fnD, dRet, xLift, dBool, dAnd, dOr, dNot, dBl, dSh, dIsi, dVar, share, T.data, D.isi, D.bool, retW, outP, keepP, dSeq, dIf, xbLift, dC, dOp, dWith, fdCons, fdNil, D.items, Rs.w, dChain, gLe, gLt, gGt, gGe, gRI0, gRI, gAdd, gSubI, dAsg, mv, gdName, dDrop, dCallX, dCall, daCons, daNil, pars, back, putBack, resW, dIfE, dNext, dRaise, dItemsT, dItemsL, dFor, dLift, W.tm, dTru, truth, isFz, dAug, gMul1, dScal, dScalT, T.frz, D.scal, dUn, gNeg, gTupD, gLstD, xNot, xBl, gIx, dSl, gSlT, pAt, pNo, dMv, gInt, dInR])]
    change dSeq (dFor _ _ turnT) _ _ = _
    rw [seq_nx (for_nx (l := l.reverse) (r1 := [.fz w, .fz (.lst l), .fz z, .fz z, .un]) (by
      simp only [dRev, dSh, dVar, List.getElem?_cons_succ, List.getElem?_cons_zero, Option.bind_some, share, fzs_data]
      rfl) h)]
    rfl
  show fnD 3 5 [true, true, true] b_in_turn _ = _
  unfold fnD
  rw [if_pos (by rfl)]
  show ((b_in_turn [.fz w, .ls (l.map .fz), .fz z, .un, .un]).bind _) = _
  rw [key]
  rfl
theorem rngT {f : FDs} {r r1 : Q.Env} {i : Int} (h : f r = some ([.int i], r1)) (h0 : 0 ≤ i) (h1 : i ≤ 100) : dRange1 f r = some (upto 0 i.toNat, r1) := by
  unfold dRange1
  rw [h]
  exact if_pos ⟨by omega, by omega⟩
theorem comp_puts {a0 a2 a3 : T} {i : Int} : ∀ (l : List D) (acc : List T) (u : T), acc.length + l.length ≤ 100 → ∃ u', compD (gdName 4) dYes (dMv (dWith (fdCons (dSh (dC (.str "put"))) (fdCons (dSh (dVar 1)) (fdCons (dSh (dVar 4)) fdNil))) gTupD)) [4] l [a0, .fz (.int i), a2, a3, u] acc = some (acc ++ (l.map fun d => .fz (.tup [.str "put", .int i, d])), [a0, .fz (.int i), a2, a3, u'])
  | [], acc, u, _ => ⟨u, by simp [compD]⟩
  | d :: l, acc, u, h => by
    obtain ⟨u', e⟩ := comp_puts l (acc ++ [.fz (.tup [.str "put", .int i, d])]) (.fz d) (by simp at h ⊢; omega)
    refine ⟨u', ?_⟩
    have c : acc.length < 1000000 := by simp at h; omega
    simp only [compD, wipeT, List.set_cons_succ, List.set_cons_zero, gdName, Option.bind_some, dYes, if_true]
    have st : (dMv (dWith (fdCons (dSh (dC (.str "put"))) (fdCons (dSh (dVar 1)) (fdCons (dSh (dVar 4)) fdNil))) gTupD)) [a0, .fz (.int i), a2, a3, .fz d] = some (.fz (.tup [.str "put", .int i, d]), [a0, .fz (.int i), a2, a3, .fz d]) := by simp [fnD, dRet, xLift, dBool, dAnd, dOr, dNot, dBl, dSh, dIsi, dVar, share, T.data, D.isi, D.bool, retW, outP, keepP, dSeq, dIf, xbLift, dC, dOp, dWith, fdCons, fdNil, D.items, Rs.w, dChain, gLe, gLt, gGt, gGe, gRI0, gRI, gAdd, gSubI, dAsg, mv, gdName, dDrop, dCallX, dCall, daCons, daNil, pars, back, putBack, resW, dIfE, dNext, dRaise, dItemsT, dItemsL, dFor, dLift, W.tm, dTru, truth, isFz, dAug, gMul1, dScal, dScalT, T.frz, D.scal, dUn, gNeg, gTupD, gLstD, xNot, xBl, gIx, dSl, gSlT, pAt, pNo, dMv, gInt, dInR]
    simp only [st, Option.bind_some, if_pos c]
    rw [e]
    simp
theorem upto4 : upto 0 1 = [.int 0] ∧ upto 0 2 = [.int 0, .int 1] ∧ upto 0 3 = [.int 0, .int 1, .int 2] ∧ upto 0 4 = [.int 0, .int 1, .int 2, .int 3] := ⟨rfl, rfl, rfl, rfl⟩
end K5

set_option Elab.async false
set_option linter.all false
set_option maxRecDepth 100000
set_option maxHeartbeats 8000000
namespace K5
open PySem PySem.Spec PyProof.Rows L2 Q
theorem last3 {l : List D} (x : D) (hl : l.length ≤ 3) : atI (l ++ [x]) (-1) = some x := by
  match l, hl with
  | [], _ => rfl
  | [a], _ => rfl
  | [a, b], _ => rfl
  | [a, b, c], _ => rfl
theorem cut3 {l : List D} (x : D) (hl : l.length ≤ 3) : Q.cutD (l ++ [x]) none (some (-1)) = l := by
  match l, hl with
  | [], _ => rfl
  | [a], _ => rfl
  | [a, b], _ => rfl
  | [a, b, c], _ => rfl
theorem da3 {f g h : ED} {r r1 r2 r3 : Q.Env} {a b c : Q.W} (h1 : f r = some (a, r1)) (h2 : g r1 = some (b, r2)) (h3 : h r2 = some (c, r3)) : daCons f (daCons g (daCons h daNil)) r = some ([a, b, c], r3) := by
  simp only [daCons, daNil, h1, h2, h3, Option.bind_some]
theorem with3 {f1 f2 f3 : FD} {r r1 r2 r3 : Q.Env} {a b c : D} (h1 : f1 r = some (a, r1)) (h2 : f2 r1 = some (b, r2)) (h3 : f3 r2 = some (c, r3)) : dWith (fdCons f1 (fdCons f2 (fdCons f3 fdNil))) gTupD r = some (.sh (.tup [a, b, c]), r3) := by
  simp only [dWith, fdCons, fdNil, h1, h2, h3, Option.bind_some]
  rfl
theorem v_turned_put {sh : List D} {i j : Int} (hs : GSh sh) (h : vOK sh [.int i, .int j] = true) : fn_turned_put [.fz (.tup sh), .fz (.int i), .fz (.int j)] = some (.ret (.fz (due sh (.put i j)).d), [.fz (.tup sh), .fz (.int i), .fz (.int j)]) := by
  obtain ⟨n, n1, n4, e1, e2, i0, hat⟩ := shv_ok hs h
  have hr : dRange1 (fdCons (dSh (dOp gIx (dSh (dVar 0)) (dSh (dVar 1)))) fdNil) [.fz (.tup sh), .fz (.int i), .fz (.int j), .un, .un] = some (upto 0 n.toNat, [.fz (.tup sh), .fz (.int i), .fz (.int j), .un, .un]) := rngT (i := n) (by simp [fnD, dRet, xLift, dBool, dAnd, dOr, dNot, dBl, dSh, dIsi, dVar, share, T.data, D.isi, D.bool, retW, outP, keepP, dSeq, dIf, xbLift, dC, dOp, dWith, fdCons, fdNil, D.items, Rs.w, dChain, gLe, gLt, gGt, gGe, gRI0, gRI, gAdd, gSubI, dAsg, mv, gdName, dDrop, dCallX, dCall, daCons, daNil, pars, back, putBack, resW, dIfE, dNext, dRaise, dItemsT, dItemsL, dFor, dLift, W.tm, dTru, truth, isFz, dAug, gMul1, dScal, dScalT, T.frz, D.scal, dUn, gNeg, gTupD, gLstD, xNot, xBl, gIx, dSl, gSlT, pAt, pNo, dMv, gInt, dInR, hat]) (by omega) (by omega)
  obtain ⟨u', hc⟩ := comp_puts (a0 := .fz (.tup sh)) (a2 := .fz (.int j)) (a3 := .un) (i := i) (upto 0 n.toNat) [] .un (by rw [upto_len]; simp; omega)
  have s1 : dAsg (xLift (dComp (dRange1 (fdCons (dSh (dOp gIx (dSh (dVar 0)) (dSh (dVar 1)))) fdNil)) (gdName 4) dYes (dMv (dWith (fdCons (dSh (dC (.str "put"))) (fdCons (dSh (dVar 1)) (fdCons (dSh (dVar 4)) fdNil))) gTupD)) [4])) (gdName 3) [.fz (.tup sh), .fz (.int i), .fz (.int j), .un, .un] = some (.nx [.fz (.tup sh), .fz (.int i), .fz (.int j), .ls (((upto 0 n.toNat).map fun d => .tup [.str "put", .int i, d]).map .fz), .un]) := by
    simp only [dAsg, xLift, dComp, hr, Option.bind_some, hc, List.nil_append, mv, gdName, restore, slotP, keepP]
    simp
  have fin : ∀ (l : List D) (x : D) (z : D), (upto 0 n.toNat).map (fun d => D.tup [.str "put", .int i, d]) = l ++ [x] → l.length ≤ 3 → z = l.reverse.foldl (fun z d => .tup [.str "either", d, z]) x → fn_turned_put [.fz (.tup sh), .fz (.int i), .fz (.int j)] = some (.ret (.fz (.tup [.str "then", .tup [.str "is", .int i, .int j], z])), [.fz (.tup sh), .fz (.int i), .fz (.int j)]) := by
    intro l x z el hl ez
    rw [el] at s1
    have hi := v_in_turn (w := .str "either") (z := x) (l := l)
    rw [← ez] at hi
    have hlast := last3 x hl
    have hcut := cut3 x hl
    have key : b_turned_put [.fz (.tup sh), .fz (.int i), .fz (.int j), .un, .un] = some (.rt (.sh (.tup [.str "then", .tup [.str "is", .int i, .int j], z])) [.fz (.tup sh), .fz (.int i), .fz (.int j), .fz (.lst (l ++ [x])), .un]) := by
      unfold b_turned_put
      rw [seq_nx s1]
      have sv : dSh (dVar 3) [.fz (.tup sh), .fz (.int i), .fz (.int j), .ls ((l ++ [x]).map .fz), .un] = some (.lst (l ++ [x]), [.fz (.tup sh), .fz (.int i), .fz (.int j), .fz (.lst (l ++ [x])), .un]) := by
        simp only [dSh, dVar, List.getElem?_cons_succ, List.getElem?_cons_zero, Option.bind_some, share, fzs_data]
        rfl
      have q1 : dSl gSlL (dSh (dVar 3)) pNo (pAt (dSh (dUn gNeg (dSh (dC (.int 1)))))) [.fz (.tup sh), .fz (.int i), .fz (.int j), .ls ((l ++ [x]).map .fz), .un] = some (.nw (.ls (l.map .fz)), [.fz (.tup sh), .fz (.int i), .fz (.int j), .fz (.lst (l ++ [x])), .un]) := by
        have pa : pAt (dSh (dUn gNeg (dSh (dC (.int 1))))) [.fz (.tup sh), .fz (.int i), .fz (.int j), .fz (.lst (l ++ [x])), .un] = some (some (-1), [.fz (.tup sh), .fz (.int i), .fz (.int j), .fz (.lst (l ++ [x])), .un]) := rfl
        unfold dSl
        rw [sv]
        simp only [Option.bind_some, pNo, pa, gSlL, hcut]
        rfl
      have q2 : dOp gIx (dSh (dVar 3)) (dSh (dUn gNeg (dSh (dC (.int 1))))) [.fz (.tup sh), .fz (.int i), .fz (.int j), .fz (.lst (l ++ [x])), .un] = some (.sh x, [.fz (.tup sh), .fz (.int i), .fz (.int j), .fz (.lst (l ++ [x])), .un]) := by
        simp [fnD, dRet, xLift, dBool, dAnd, dOr, dNot, dBl, dSh, dIsi, dVar, share, T.data, D.isi, D.bool, retW, outP, keepP, dSeq, dIf, xbLift, dC, dOp, dWith, fdCons, fdNil, D.items, Rs.w, dChain, gLe, gLt, gGt, gGe, gRI0, gRI, gAdd, gSubI, dAsg, mv, gdName, dDrop, dCallX, dCall, daCons, daNil, pars, back, putBack, resW, dIfE, dNext, dRaise, dItemsT, dItemsL, dFor, dLift, W.tm, dTru, truth, isFz, dAug, gMul1, dScal, dScalT, T.frz, D.scal, dUn, gNeg, gTupD, gLstD, xNot, xBl, gIx, dSl, gSlT, pAt, pNo, dMv, gInt, dInR, hlast]
      have a3 : (daCons (dC (.str "either")) (daCons (dSl gSlL (dSh (dVar 3)) pNo (pAt (dSh (dUn gNeg (dSh (dC (.int 1))))))) (daCons (dOp gIx (dSh (dVar 3)) (dSh (dUn gNeg (dSh (dC (.int 1)))))) daNil))) [.fz (.tup sh), .fz (.int i), .fz (.int j), .ls ((l ++ [x]).map .fz), .un] = some ([.sh (.str "either"), .nw (.ls (l.map .fz)), .sh x], [.fz (.tup sh), .fz (.int i), .fz (.int j), .fz (.lst (l ++ [x])), .un]) := da3 rfl q1 q2
      have q3 := call_sh (fn := fn_in_turn) (ps := [.fz (.str "either"), .ls (l.map .fz), .fz x]) (r2 := [.fz (.tup sh), .fz (.int i), .fz (.int j), .fz (.lst (l ++ [x])), .un]) a3 rfl hi rfl rfl
      have q5 : dSh (dWith (fdCons (dSh (dC (.str "is"))) (fdCons (dSh (dVar 1)) (fdCons (dSh (dVar 2)) fdNil))) gTupD) [.fz (.tup sh), .fz (.int i), .fz (.int j), .ls ((l ++ [x]).map .fz), .un] = some (.tup [.str "is", .int i, .int j], [.fz (.tup sh), .fz (.int i), .fz (.int j), .ls ((l ++ [x]).map .fz), .un]) := rfl
      have q6 := with3 (f1 := dSh (dC (.str "then"))) (a := .str "then") (r := [.fz (.tup sh), .fz (.int i), .fz (.int j), .ls ((l ++ [x]).map .fz), .un]) (r1 := [.fz (.tup sh), .fz (.int i), .fz (.int j), .ls ((l ++ [x]).map .fz), .un]) rfl q5 (sh_sh q3)
      unfold dRet xLift
      rw [q6]
      rfl
    exact (fn_rt (by rfl) key (by simp)).trans (by simp [outP])
  have hn : n = 1 ∨ n = 2 ∨ n = 3 ∨ n = 4 := by omega
  obtain ⟨u1, u2, u3, u4⟩ := upto4
  rcases hn with rfl | rfl | rfl | rfl
  · rw [fin [] (.tup [.str "put", .int i, .int 0]) _ (by show (upto 0 1).map _ = _; rw [u1]; rfl) (by simp) rfl]
    simp [due, e2, puts, Sy.d]
  · rw [fin [.tup [.str "put", .int i, .int 0]] (.tup [.str "put", .int i, .int 1]) _ (by show (upto 0 2).map _ = _; rw [u2]; rfl) (by simp) rfl]
    simp [due, e2, puts, Sy.d]
  · rw [fin [.tup [.str "put", .int i, .int 0], .tup [.str "put", .int i, .int 1]] (.tup [.str "put", .int i, .int 2]) _ (by show (upto 0 3).map _ = _; rw [u3]; rfl) (by simp) rfl]
    simp [due, e2, puts, Sy.d]
  · rw [fin [.tup [.str "put", .int i, .int 0], .tup [.str "put", .int i, .int 1], .tup [.str "put", .int i, .int 2]] (.tup [.str "put", .int i, .int 3]) _ (by show (upto 0 4).map _ = _; rw [u4]; rfl) (by simp) rfl]
    simp [due, e2, puts, Sy.d]
end K5

set_option Elab.async false
set_option linter.all false
set_option maxRecDepth 100000
set_option maxHeartbeats 8000000
namespace K5
open PySem PySem.Spec PyProof.Rows L2 Q
def made (sh : List D) : Sy → List D
  | .thn a b => [(due sh b).d, (due sh a).d]
  | .eit a b => [(due sh b).d, (due sh a).d]
  | .aga a => [(due sh a).d]
  | _ => []
theorem v_turned_part {sh : List D} {s : Sy} {M : List D} (hs : GSh sh) (h : okS sh s = true) : fn_turned_part [.fz (.tup sh), .fz s.d, .ls ((M ++ made sh s).map .fz)] = some (.ret (.fz (due sh s).d), [.fz (.tup sh), .fz s.d, .ls (M.map .fz)]) := by
  cases s with
  | yes => simp [fn_turned_part, b_turned_part, fnD, dRet, xLift, dBool, dAnd, dOr, dNot, dBl, dSh, dIsi, dVar, share, T.data, D.isi, D.bool, retW, outP, keepP, dSeq, dIf, xbLift, dC, dOp, dWith, fdCons, fdNil, D.items, Rs.w, dChain, gLe, gLt, gGt, gGe, gRI0, gRI, gAdd, gSubI, dAsg, mv, gdName, dDrop, dCallX, dCall, daCons, daNil, pars, back, putBack, resW, dIfE, dNext, dRaise, dItemsT, dItemsL, dFor, dLift, W.tm, dTru, truth, isFz, dAug, gMul1, dScal, dScalT, T.frz, D.scal, dUn, gNeg, gTupD, gLstD, xNot, xBl, gIx, dSl, gSlT, pAt, pNo, dMv, gInt, dInR, Sy.d, at0, q_put so1, q_again so1, in_te, w1, made, due]
  | no => simp [fn_turned_part, b_turned_part, fnD, dRet, xLift, dBool, dAnd, dOr, dNot, dBl, dSh, dIsi, dVar, share, T.data, D.isi, D.bool, retW, outP, keepP, dSeq, dIf, xbLift, dC, dOp, dWith, fdCons, fdNil, D.items, Rs.w, dChain, gLe, gLt, gGt, gGe, gRI0, gRI, gAdd, gSubI, dAsg, mv, gdName, dDrop, dCallX, dCall, daCons, daNil, pars, back, putBack, resW, dIfE, dNext, dRaise, dItemsT, dItemsL, dFor, dLift, W.tm, dTru, truth, isFz, dAug, gMul1, dScal, dScalT, T.frz, D.scal, dUn, gNeg, gTupD, gLstD, xNot, xBl, gIx, dSl, gSlT, pAt, pNo, dMv, gInt, dInR, Sy.d, at0, q_put so2, q_again so2, in_te, w2, made, due]
  | note => simp [fn_turned_part, b_turned_part, fnD, dRet, xLift, dBool, dAnd, dOr, dNot, dBl, dSh, dIsi, dVar, share, T.data, D.isi, D.bool, retW, outP, keepP, dSeq, dIf, xbLift, dC, dOp, dWith, fdCons, fdNil, D.items, Rs.w, dChain, gLe, gLt, gGt, gGe, gRI0, gRI, gAdd, gSubI, dAsg, mv, gdName, dDrop, dCallX, dCall, daCons, daNil, pars, back, putBack, resW, dIfE, dNext, dRaise, dItemsT, dItemsL, dFor, dLift, W.tm, dTru, truth, isFz, dAug, gMul1, dScal, dScalT, T.frz, D.scal, dUn, gNeg, gTupD, gLstD, xNot, xBl, gIx, dSl, gSlT, pAt, pNo, dMv, gInt, dInR, Sy.d, at0, q_put so_note, q_again so_note, in_te, w3, made, due]
  | is i j => simp [fn_turned_part, b_turned_part, fnD, dRet, xLift, dBool, dAnd, dOr, dNot, dBl, dSh, dIsi, dVar, share, T.data, D.isi, D.bool, retW, outP, keepP, dSeq, dIf, xbLift, dC, dOp, dWith, fdCons, fdNil, D.items, Rs.w, dChain, gLe, gLt, gGt, gGe, gRI0, gRI, gAdd, gSubI, dAsg, mv, gdName, dDrop, dCallX, dCall, daCons, daNil, pars, back, putBack, resW, dIfE, dNext, dRaise, dItemsT, dItemsL, dFor, dLift, W.tm, dTru, truth, isFz, dAug, gMul1, dScal, dScalT, T.frz, D.scal, dUn, gNeg, gTupD, gLstD, xNot, xBl, gIx, dSl, gSlT, pAt, pNo, dMv, gInt, dInR, Sy.d, at0, q_put so_is, q_again so_is, in_te, w4, made, due]
  | nt a => simp [fn_turned_part, b_turned_part, fnD, dRet, xLift, dBool, dAnd, dOr, dNot, dBl, dSh, dIsi, dVar, share, T.data, D.isi, D.bool, retW, outP, keepP, dSeq, dIf, xbLift, dC, dOp, dWith, fdCons, fdNil, D.items, Rs.w, dChain, gLe, gLt, gGt, gGe, gRI0, gRI, gAdd, gSubI, dAsg, mv, gdName, dDrop, dCallX, dCall, daCons, daNil, pars, back, putBack, resW, dIfE, dNext, dRaise, dItemsT, dItemsL, dFor, dLift, W.tm, dTru, truth, isFz, dAug, gMul1, dScal, dScalT, T.frz, D.scal, dUn, gNeg, gTupD, gLstD, xNot, xBl, gIx, dSl, gSlT, pAt, pNo, dMv, gInt, dInR, Sy.d, at0, q_put so_not, q_again so_not, in_te, w9, made, due]
  | put i j =>
    have hp := v_turned_put hs (show vOK sh [.int i, .int j] = true from h)
    generalize hd : (due sh (.put i j)).d = dd at hp ⊢
    simp [fn_turned_part, b_turned_part, fnD, dRet, xLift, dBool, dAnd, dOr, dNot, dBl, dSh, dIsi, dVar, share, T.data, D.isi, D.bool, retW, outP, keepP, dSeq, dIf, xbLift, dC, dOp, dWith, fdCons, fdNil, D.items, Rs.w, dChain, gLe, gLt, gGt, gGe, gRI0, gRI, gAdd, gSubI, dAsg, mv, gdName, dDrop, dCallX, dCall, daCons, daNil, pars, back, putBack, resW, dIfE, dNext, dRaise, dItemsT, dItemsL, dFor, dLift, W.tm, dTru, truth, isFz, dAug, gMul1, dScal, dScalT, T.frz, D.scal, dUn, gNeg, gTupD, gLstD, xNot, xBl, gIx, dSl, gSlT, pAt, pNo, dMv, gInt, dInR, Sy.d, at0, at1, at2, q_put so_put, w5, made, hp]
  | aga a =>
    have e : (M ++ made sh (.aga a)).map T.fz = M.map .fz ++ [.fz (due sh a).d] := by simp [made]
    rw [e]
    simp [fn_turned_part, b_turned_part, fnD, dRet, xLift, dBool, dAnd, dOr, dNot, dBl, dSh, dIsi, dVar, share, T.data, D.isi, D.bool, retW, outP, keepP, dSeq, dIf, xbLift, dC, dOp, dWith, fdCons, fdNil, D.items, Rs.w, dChain, gLe, gLt, gGt, gGe, gRI0, gRI, gAdd, gSubI, dAsg, mv, gdName, dDrop, dCallX, dCall, daCons, daNil, pars, back, putBack, resW, dIfE, dNext, dRaise, dItemsT, dItemsL, dFor, dLift, W.tm, dTru, truth, isFz, dAug, gMul1, dScal, dScalT, T.frz, D.scal, dUn, gNeg, gTupD, gLstD, xNot, xBl, gIx, dSl, gSlT, pAt, pNo, dMv, gInt, dInR, Sy.d, at0, q_put so_again, q_again so_again, w8, due, dPop]
  | thn a b =>
    have e : (M ++ made sh (.thn a b)).map T.fz = (M.map .fz ++ [.fz (due sh b).d]) ++ [.fz (due sh a).d] := by simp [made]
    rw [e]
    simp only [fn_turned_part, b_turned_part, Sy.d]
    simp [fnD, dRet, xLift, dBool, dAnd, dOr, dNot, dBl, dSh, dIsi, dVar, share, T.data, D.isi, D.bool, retW, outP, keepP, dSeq, dIf, xbLift, dC, dOp, dWith, fdCons, fdNil, D.items, Rs.w, dChain, gLe, gLt, gGt, gGe, gRI0, gRI, gAdd, gSubI, dAsg, mv, gdName, dDrop, dCallX, dCall, daCons, daNil, pars, back, putBack, resW, dIfE, dNext, dRaise, dItemsT, dItemsL, dFor, dLift, W.tm, dTru, truth, isFz, dAug, gMul1, dScal, dScalT, T.frz, D.scal, dUn, gNeg, gTupD, gLstD, xNot, xBl, gIx, dSl, gSlT, pAt, pNo, dMv, gInt, dInR, at0, q_put so6, q_again so6, q_then so6, in_te, w6, due, dPop, Sy.d]
  | eit a b =>
    have e : (M ++ made sh (.eit a b)).map T.fz = (M.map .fz ++ [.fz (due sh b).d]) ++ [.fz (due sh a).d] := by simp [made]
    rw [e]
    simp only [fn_turned_part, b_turned_part, Sy.d]
    simp [fnD, dRet, xLift, dBool, dAnd, dOr, dNot, dBl, dSh, dIsi, dVar, share, T.data, D.isi, D.bool, retW, outP, keepP, dSeq, dIf, xbLift, dC, dOp, dWith, fdCons, fdNil, D.items, Rs.w, dChain, gLe, gLt, gGt, gGe, gRI0, gRI, gAdd, gSubI, dAsg, mv, gdName, dDrop, dCallX, dCall, daCons, daNil, pars, back, putBack, resW, dIfE, dNext, dRaise, dItemsT, dItemsL, dFor, dLift, W.tm, dTru, truth, isFz, dAug, gMul1, dScal, dScalT, T.frz, D.scal, dUn, gNeg, gTupD, gLstD, xNot, xBl, gIx, dSl, gSlT, pAt, pNo, dMv, gInt, dInR, at0, q_put so7, q_again so7, q_then so7, in_te, w7, due, dPop, Sy.d]
end K5

set_option Elab.async false
set_option linter.all false
set_option maxRecDepth 100000
set_option maxHeartbeats 8000000
namespace K5
open PySem PySem.Spec PyProof.Rows L2 Q
theorem loop_two {h : GD} {body : SD} : ∀ (l1 l2 : List D) (r r1 : Q.Env), loopD h body l1 r = some (.nx r1) → (∀ r r1 r2 d, h r (.fz d) = some r1 → body r1 ≠ some (.bk r2)) → loopD h body (l1 ++ l2) r = loopD h body l2 r1 := by
  intro l1
  induction l1 with
  | nil => intro l2 r r1 e _; cases e; rfl
  | cons d l1 ih =>
    intro l2 r r1 e nb
    unfold loopD at e
    obtain ⟨r2, e1, e⟩ := Option.bind_eq_some_iff.mp e
    obtain ⟨o, e2, e⟩ := Option.bind_eq_some_iff.mp e
    simp only [List.cons_append, loopD, e1, e2, Option.bind_some]
    cases o with
    | nx r3 => exact ih l2 r3 r1 e nb
    | ct r3 => exact ih l2 r3 r1 e nb
    | bk r3 => exact absurd e2 (nb _ _ _ _ e1)
    | rt w r3 => cases e
    | ex c r3 => cases e
def madeB : SD := (dDrop (xLift (dAppend 2 (dMv (dCall fn_turned_part (daCons (dVar 0) (daCons (dVar 3) (daCons (dVar 2) daNil))))))))
theorem madeB_nb (r1 r2 : Q.Env) : madeB r1 ≠ some (.bk r2) := by
  intro e
  unfold madeB dDrop at e
  obtain ⟨⟨z, r3⟩, _, e⟩ := Option.bind_eq_some_iff.mp e
  cases z <;> cases e
theorem madeB_ev {sh : List D} {a1 : T} {s : Sy} {M : List D} (hs : GSh sh) (h : okS sh s = true) (hm : M.length < 900000) : madeB [.fz (.tup sh), a1, .ls ((M ++ made sh s).map .fz), .fz s.d] = some (.nx [.fz (.tup sh), a1, .ls ((M ++ [(due sh s).d]).map .fz), .fz s.d]) := by
  have ht := v_turned_part (M := M) hs h
  have c : M.length < 1000000 := by omega
  generalize (M ++ made sh s).map T.fz = L at ht ⊢
  simp [madeB, fnD, dRet, xLift, dBool, dAnd, dOr, dNot, dBl, dSh, dIsi, dVar, share, T.data, D.isi, D.bool, retW, outP, keepP, dSeq, dIf, xbLift, dC, dOp, dWith, fdCons, fdNil, D.items, Rs.w, dChain, gLe, gLt, gGt, gGe, gRI0, gRI, gAdd, gSubI, dAsg, mv, gdName, dDrop, dCallX, dCall, daCons, daNil, pars, back, putBack, resW, dIfE, dNext, dRaise, dItemsT, dItemsL, dFor, dLift, W.tm, dTru, truth, isFz, dAug, gMul1, dScal, dScalT, T.frz, D.scal, dUn, gNeg, gTupD, gLstD, xNot, xBl, gIx, dSl, gSlT, pAt, pNo, dMv, gInt, dInR, dAppend, isLs, ht, c]
theorem loop_one {h : GD} {body : SD} {d : D} {r r1 r2 : Q.Env} (e1 : h r (.fz d) = some r1) (e2 : body r1 = some (.nx r2)) : loopD h body [d] r = some (.nx r2) := by
  simp only [loopD, e1, e2, Option.bind_some]
theorem loop_made {sh : List D} {a1 : T} (hs : GSh sh) : ∀ (s : Sy) (M : List D) (a3 : T), okS sh s = true → M.length + sz s < 800000 → ∃ b3, loopD (gdName 3) madeB (pre s).reverse [.fz (.tup sh), a1, .ls (M.map .fz), a3] = some (.nx [.fz (.tup sh), a1, .ls ((M ++ [(due sh s).d]).map .fz), b3]) := by
  have nb : ∀ (r r1 r2 : Q.Env) (d : D), gdName 3 r (.fz d) = some r1 → madeB r1 ≠ some (.bk r2) := fun r r1 r2 d _ => madeB_nb r1 r2
  have flat : ∀ (s : Sy) (M : List D) (a3 : T), okS sh s = true → made sh s = [] → pre s = [s.d] → M.length < 800000 → ∃ b3, loopD (gdName 3) madeB (pre s).reverse [.fz (.tup sh), a1, .ls (M.map .fz), a3] = some (.nx [.fz (.tup sh), a1, .ls ((M ++ [(due sh s).d]).map .fz), b3]) := by
    intro s M a3 h hm hp hl
    have e := madeB_ev (a1 := a1) (M := M) hs h (by omega)
    rw [hm, List.append_nil] at e
    rw [hp]
    exact ⟨.fz s.d, loop_one rfl e⟩
  intro s
  induction s with
  | yes => intro M a3 h hl; exact flat _ M a3 h rfl rfl (by omega)
  | no => intro M a3 h hl; exact flat _ M a3 h rfl rfl (by omega)
  | note => intro M a3 h hl; exact flat _ M a3 h rfl rfl (by omega)
  | is i j => intro M a3 h hl; exact flat _ M a3 h rfl rfl (by omega)
  | put i j => intro M a3 h hl; exact flat _ M a3 h rfl rfl (by omega)
  | nt a _ => intro M a3 h hl; exact flat _ M a3 h rfl rfl (by omega)
  | aga a iha =>
    intro M a3 h hl
    have h' : okS sh a = true := h
    simp only [sz] at hl
    obtain ⟨b3, e1⟩ := iha M a3 h' (by omega)
    have e2 := madeB_ev (a1 := a1) (s := .aga a) (M := M) hs h (by omega)
    refine ⟨.fz (Sy.aga a).d, ?_⟩
    rw [show (pre (.aga a)).reverse = (pre a).reverse ++ [(Sy.aga a).d] by simp [pre]]
    rw [loop_two _ _ _ _ e1 nb]
    exact loop_one rfl e2
  | thn a b iha ihb =>
    intro M a3 h hl
    have h' := h
    simp only [okS, Bool.and_eq_true] at h'
    simp only [sz] at hl
    have pa : 1 ≤ sz a := by cases a <;> simp [sz]
    obtain ⟨b3, e1⟩ := ihb M a3 h'.2 (by omega)
    obtain ⟨c3, e2⟩ := iha (M ++ [(due sh b).d]) b3 h'.1 (by simp; have : 1 ≤ sz b := by cases b <;> simp [sz]
                                                             omega)
    have e3 := madeB_ev (a1 := a1) (s := .thn a b) (M := M) hs h (by omega)
    refine ⟨.fz (Sy.thn a b).d, ?_⟩
    rw [show (pre (.thn a b)).reverse = (pre b).reverse ++ ((pre a).reverse ++ [(Sy.thn a b).d]) by simp [pre]]
    rw [loop_two _ _ _ _ e1 nb, loop_two _ _ _ _ e2 nb]
    rw [List.append_assoc]
    exact loop_one rfl e3
  | eit a b iha ihb =>
    intro M a3 h hl
    have h' := h
    simp only [okS, Bool.and_eq_true] at h'
    simp only [sz] at hl
    have pa : 1 ≤ sz a := by cases a <;> simp [sz]
    obtain ⟨b3, e1⟩ := ihb M a3 h'.2 (by omega)
    obtain ⟨c3, e2⟩ := iha (M ++ [(due sh b).d]) b3 h'.1 (by simp; have : 1 ≤ sz b := by cases b <;> simp [sz]
                                                             omega)
    have e3 := madeB_ev (a1 := a1) (s := .eit a b) (M := M) hs h (by omega)
    refine ⟨.fz (Sy.eit a b).d, ?_⟩
    rw [show (pre (.eit a b)).reverse = (pre b).reverse ++ ((pre a).reverse ++ [(Sy.eit a b).d]) by simp [pre]]
    rw [loop_two _ _ _ _ e1 nb, loop_two _ _ _ _ e2 nb]
    rw [List.append_assoc]
    exact loop_one rfl e3
theorem v_turned_saying {Z : Zs} {sh : List D} {s : Sy} (hs : GSh sh) (h : okS sh s = true) (hn : notes s ≤ 5) (hz : sz s ≤ 2800) : fn_turned_saying Z [.fz (.tup sh), .fz s.d] = some (.ret (.fz (due sh s).d), [.fz (.tup sh), .fz s.d]) := by
  have hc := v_check_saying (Z := Z) hs h hn hz
  have hp := v_parts_by (Z := Z) (s := s) (by omega)
  obtain ⟨b3, e1⟩ := loop_made (a1 := .fz s.d) hs s [] .un h (by simp; omega)
  have key : b_turned_saying Z [.fz (.tup sh), .fz s.d, .un, .un] = some (.rt (.sh (due sh s).d) [.fz (.tup sh), .fz s.d, .ls [], b3]) := by
    unfold b_turned_saying
    rw [seq_nx (r1 := [.fz (.tup sh), .fz s.d, .un, .un]) (by simp [fnD, dRet, xLift, dBool, dAnd, dOr, dNot, dBl, dSh, dIsi, dVar, share, T.data, D.isi, D.bool, retW, outP, keepP, dSeq, dIf, xbLift, dC, dOp, dWith, fdCons, fdNil, D.items, Rs.w, dChain, gLe, gLt, gGt, gGe, gRI0, gRI, gAdd, gSubI, dAsg, mv, gdName, dDrop, dCallX, dCall, daCons, daNil, pars, back, putBack, resW, dIfE, dNext, dRaise, dItemsT, dItemsL, dFor, dLift, W.tm, dTru, truth, isFz, dAug, gMul1, dScal, dScalT, T.frz, D.scal, dUn, gNeg, gTupD, gLstD, xNot, xBl, gIx, dSl, gSlT, pAt, pNo, dMv, gInt, dInR, hc])]
    rw [seq_nx (r1 := [.fz (.tup sh), .fz s.d, .ls [], .un]) (by simp [fnD, dRet, xLift, dBool, dAnd, dOr, dNot, dBl, dSh, dIsi, dVar, share, T.data, D.isi, D.bool, retW, outP, keepP, dSeq, dIf, xbLift, dC, dOp, dWith, fdCons, fdNil, D.items, Rs.w, dChain, gLe, gLt, gGt, gGe, gRI0, gRI, gAdd, gSubI, dAsg, mv, gdName, dDrop, dCallX, dCall, daCons, daNil, pars, back, putBack, resW, dIfE, dNext, dRaise, dItemsT, dItemsL, dFor, dLift, W.tm, dTru, truth, isFz, dAug, gMul1, dScal, dScalT, T.frz, D.scal, dUn, gNeg, gTupD, gLstD, xNot, xBl, gIx, dSl, gSlT, pAt, pNo, dMv, gInt, dInR])]
    change dSeq (dFor _ _ madeB) _ _ = _
    have hr : dRev (dSh (dCall (fn_parts_by Z) (daCons (dVar 1) (daCons (dC (.fnc Z.f_turned_inner)) daNil)))) [.fz (.tup sh), .fz s.d, .ls [], .un] = some ((pre s).reverse, [.fz (.tup sh), .fz s.d, .ls [], .un]) := by
      have hd := fzs_data (pre s)
      generalize (pre s).map T.fz = L at hp hd
      have : dSh (dCall (fn_parts_by Z) (daCons (dVar 1) (daCons (dC (.fnc Z.f_turned_inner)) daNil))) [.fz (.tup sh), .fz s.d, .ls [], .un] = some (.lst (pre s), [.fz (.tup sh), .fz s.d, .ls [], .un]) := by
        simp only [dSh, dCall, daCons, daNil, dVar, dC, List.getElem?_cons_succ, List.getElem?_cons_zero, Option.bind_some, pars, hp]
        simp [resW, back, putBack, share, hd]
      unfold dRev
      rw [this]
      rfl
    rw [seq_nx (for_nx hr e1)]
    simp [dRet, xLift, dPop, resW]
  exact (fn_rt (by rfl) key (by simp)).trans (by simp [outP])
end K5

set_option Elab.async false
set_option linter.all false
set_option maxRecDepth 100000
set_option maxHeartbeats 8000000
namespace K5
open PySem PySem.Spec PyProof.Rows L2 Q
theorem rng3_of {f : FDs} {r r1 : Q.Env} {a b : Int} (h : f r = some ([.int a, .int b, .int (-1)], r1)) (hb : -100 ≤ a ∧ a < 100 ∧ -100 ≤ b ∧ b < 100) : dRange3 f r = some (downto a (a - b).toNat, r1) := by
  unfold dRange3
  rw [h]
  exact if_pos ⟨rfl, by omega, by omega, by omega, by omega⟩
def dueB : SD := (dAsg (xLift (dWith (fdCons (dSh (dC (.str "either"))) (fdCons (dSh (dWith (fdCons (dSh (dC (.str "put"))) (fdCons (dSh (dOp gIx (dSh (dVar 1)) (dSh (dC (.int 1))))) (fdCons (dSh (dVar 4)) fdNil))) gTupD)) (fdCons (dSh (dVar 3)) fdNil))) gTupD)) (gdName 3))
theorem dueB_ev {a0 a2 : T} {i j : Int} {z d : D} : dueB [a0, .fz (.tup [.str "put", .int i, .int j]), a2, .fz z, .fz d] = some (.nx [a0, .fz (.tup [.str "put", .int i, .int j]), a2, .fz (.tup [.str "either", .tup [.str "put", .int i, d], z]), .fz d]) := by
  simp [dueB, fnD, dRet, xLift, dBool, dAnd, dOr, dNot, dBl, dSh, dIsi, dVar, share, T.data, D.isi, D.bool, retW, outP, keepP, dSeq, dIf, xbLift, dC, dOp, dWith, fdCons, fdNil, D.items, Rs.w, dChain, gLe, gLt, gGt, gGe, gRI0, gRI, gAdd, gSubI, dAsg, mv, gdName, dDrop, dCallX, dCall, daCons, daNil, pars, back, putBack, resW, dIfE, dNext, dRaise, dItemsT, dItemsL, dFor, dLift, W.tm, dTru, truth, isFz, dAug, gMul1, dScal, dScalT, T.frz, D.scal, dUn, gNeg, gTupD, gLstD, xNot, xBl, gIx, dSl, gSlT, pAt, pNo, dMv, gInt, dInR, at1]
theorem loop_due {a0 a2 : T} {i j : Int} : ∀ (l : List D) (z : D) (a4 : T), ∃ b4, loopD (gdName 4) dueB l [a0, .fz (.tup [.str "put", .int i, .int j]), a2, .fz z, a4] = some (.nx [a0, .fz (.tup [.str "put", .int i, .int j]), a2, .fz (l.foldl (fun z d => .tup [.str "either", .tup [.str "put", .int i, d], z]) z), b4])
  | [], z, a4 => ⟨a4, rfl⟩
  | d :: l, z, a4 => by
    obtain ⟨b4, h⟩ := loop_due l (.tup [.str "either", .tup [.str "put", .int i, d], z]) (.fz d)
    refine ⟨b4, ?_⟩
    simp only [loopD, gdName, List.set_cons_succ, List.set_cons_zero, Option.bind_some, dueB_ev]
    exact h
def dueP : SD := (dSeq (dAsg (xLift (dWith (fdCons (dSh (dC (.str "put"))) (fdCons (dSh (dOp gIx (dSh (dVar 1)) (dSh (dC (.int 1))))) (fdCons (dSh (dOp gSubI (dSh (dOp gIx (dSh (dVar 0)) (dSh (dOp gIx (dSh (dVar 1)) (dSh (dC (.int 1))))))) (dSh (dC (.int 1))))) fdNil))) gTupD)) (gdName 3))
    (dSeq (dFor (dRange3 (fdCons (dSh (dOp gSubI (dSh (dOp gIx (dSh (dVar 0)) (dSh (dOp gIx (dSh (dVar 1)) (dSh (dC (.int 1))))))) (dSh (dC (.int 2))))) (fdCons (dSh (dUn gNeg (dSh (dC (.int 1))))) (fdCons (dSh (dUn gNeg (dSh (dC (.int 1))))) fdNil)))) (gdName 4) dueB)
    (dRet (xLift (dWith (fdCons (dSh (dC (.str "then"))) (fdCons (dSh (dWith (fdCons (dSh (dC (.str "is"))) (fdCons (dSh (dOp gIx (dSh (dVar 1)) (dSh (dC (.int 1))))) (fdCons (dSh (dOp gIx (dSh (dVar 1)) (dSh (dC (.int 2))))) fdNil))) gTupD)) (fdCons (dSh (dVar 3)) fdNil))) gTupD)))))
theorem down4 : downto (-1) 0 = [] ∧ downto 0 1 = [.int 0] ∧ downto 1 2 = [.int 1, .int 0] ∧ downto 2 3 = [.int 2, .int 1, .int 0] := ⟨rfl, rfl, rfl, rfl⟩
theorem dueP_ev {sh : List D} {i j : Int} (hs : GSh sh) (h : vOK sh [.int i, .int j] = true) : ∃ a b, dueP [.fz (.tup sh), .fz (.tup [.str "put", .int i, .int j]), .fz (.str "put"), .un, .un] = some (.rt (.sh (due sh (.put i j)).d) [.fz (.tup sh), .fz (.tup [.str "put", .int i, .int j]), .fz (.str "put"), a, b]) := by
  obtain ⟨n, n1, n4, e1, e2, i0, hat⟩ := shv_ok hs h
  have s1 : dAsg (xLift (dWith (fdCons (dSh (dC (.str "put"))) (fdCons (dSh (dOp gIx (dSh (dVar 1)) (dSh (dC (.int 1))))) (fdCons (dSh (dOp gSubI (dSh (dOp gIx (dSh (dVar 0)) (dSh (dOp gIx (dSh (dVar 1)) (dSh (dC (.int 1))))))) (dSh (dC (.int 1))))) fdNil))) gTupD)) (gdName 3) [.fz (.tup sh), .fz (.tup [.str "put", .int i, .int j]), .fz (.str "put"), .un, .un] = some (.nx [.fz (.tup sh), .fz (.tup [.str "put", .int i, .int j]), .fz (.str "put"), .fz (.tup [.str "put", .int i, .int (n - 1)]), .un]) := by
    simp [fnD, dRet, xLift, dBool, dAnd, dOr, dNot, dBl, dSh, dIsi, dVar, share, T.data, D.isi, D.bool, retW, outP, keepP, dSeq, dIf, xbLift, dC, dOp, dWith, fdCons, fdNil, D.items, Rs.w, dChain, gLe, gLt, gGt, gGe, gRI0, gRI, gAdd, gSubI, dAsg, mv, gdName, dDrop, dCallX, dCall, daCons, daNil, pars, back, putBack, resW, dIfE, dNext, dRaise, dItemsT, dItemsL, dFor, dLift, W.tm, dTru, truth, isFz, dAug, gMul1, dScal, dScalT, T.frz, D.scal, dUn, gNeg, gTupD, gLstD, xNot, xBl, gIx, dSl, gSlT, pAt, pNo, dMv, gInt, dInR, at1, hat]
  have hr : dRange3 (fdCons (dSh (dOp gSubI (dSh (dOp gIx (dSh (dVar 0)) (dSh (dOp gIx (dSh (dVar 1)) (dSh (dC (.int 1))))))) (dSh (dC (.int 2))))) (fdCons (dSh (dUn gNeg (dSh (dC (.int 1))))) (fdCons (dSh (dUn gNeg (dSh (dC (.int 1))))) fdNil))) [.fz (.tup sh), .fz (.tup [.str "put", .int i, .int j]), .fz (.str "put"), .fz (.tup [.str "put", .int i, .int (n - 1)]), .un] = some (downto (n - 2) (n - 2 - -1).toNat, [.fz (.tup sh), .fz (.tup [.str "put", .int i, .int j]), .fz (.str "put"), .fz (.tup [.str "put", .int i, .int (n - 1)]), .un]) := rng3_of (by simp [fnD, dRet, xLift, dBool, dAnd, dOr, dNot, dBl, dSh, dIsi, dVar, share, T.data, D.isi, D.bool, retW, outP, keepP, dSeq, dIf, xbLift, dC, dOp, dWith, fdCons, fdNil, D.items, Rs.w, dChain, gLe, gLt, gGt, gGe, gRI0, gRI, gAdd, gSubI, dAsg, mv, gdName, dDrop, dCallX, dCall, daCons, daNil, pars, back, putBack, resW, dIfE, dNext, dRaise, dItemsT, dItemsL, dFor, dLift, W.tm, dTru, truth, isFz, dAug, gMul1, dScal, dScalT, T.frz, D.scal, dUn, gNeg, gTupD, gLstD, xNot, xBl, gIx, dSl, gSlT, pAt, pNo, dMv, gInt, dInR, at1, hat]) ⟨by omega, by omega, by omega, by omega⟩
  obtain ⟨b4, hl⟩ := loop_due (a0 := .fz (.tup sh)) (a2 := .fz (.str "put")) (i := i) (j := j) (downto (n - 2) (n - 2 - -1).toNat) (.tup [.str "put", .int i, .int (n - 1)]) .un
  have hz : (downto (n - 2) (n - 2 - -1).toNat).foldl (fun z d => D.tup [.str "either", .tup [.str "put", .int i, d], z]) (.tup [.str "put", .int i, .int (n - 1)]) = (puts i 0 (shv sh i - 1)).d := by
    rw [e2]
    obtain ⟨d1, d2, d3, d4⟩ := down4
    have hn : n = 1 ∨ n = 2 ∨ n = 3 ∨ n = 4 := by omega
    rcases hn with rfl | rfl | rfl | rfl
    · show (downto (-1) 0).foldl _ _ = _; rw [d1]; rfl
    · show (downto 0 1).foldl _ _ = _; rw [d2]; rfl
    · show (downto 1 2).foldl _ _ = _; rw [d3]; rfl
    · show (downto 2 3).foldl _ _ = _; rw [d4]; rfl
  rw [hz] at hl
  generalize hd : (puts i 0 (shv sh i - 1)).d = dd at hl
  have hdue : (due sh (.put i j)).d = .tup [.str "then", .tup [.str "is", .int i, .int j], dd] := by simp only [due, Sy.d, hd]
  rw [hdue]
  refine ⟨.fz dd, b4, ?_⟩
  unfold dueP
  rw [seq_nx s1, seq_nx (for_nx hr hl)]
  simp [fnD, dRet, xLift, dBool, dAnd, dOr, dNot, dBl, dSh, dIsi, dVar, share, T.data, D.isi, D.bool, retW, outP, keepP, dSeq, dIf, xbLift, dC, dOp, dWith, fdCons, fdNil, D.items, Rs.w, dChain, gLe, gLt, gGt, gGe, gRI0, gRI, gAdd, gSubI, dAsg, mv, gdName, dDrop, dCallX, dCall, daCons, daNil, pars, back, putBack, resW, dIfE, dNext, dRaise, dItemsT, dItemsL, dFor, dLift, W.tm, dTru, truth, isFz, dAug, gMul1, dScal, dScalT, T.frz, D.scal, dUn, gNeg, gTupD, gLstD, xNot, xBl, gIx, dSl, gSlT, pAt, pNo, dMv, gInt, dInR, at1, at2]
theorem due_wrap {sh : List D} {k : Nat} {s z : D} {a b c : T} (e : b__law_due (fn__law_due k) k [.fz (.tup sh), .fz s, .un, .un, .un] = some (.rt (.sh z) [.fz (.tup sh), .fz s, a, b, c])) : fn__law_due (k + 1) [.fz (.tup sh), .fz s] = some (.ret (.fz z), [.fz (.tup sh), .fz s]) := by
  have q := fn_rt (n := 2) (N := 5) (fx := [true, true]) (b := b__law_due (fn__law_due k) k) (ps := ([T.fz (D.tup sh), T.fz s] : List T)) (d := z) (r := ([T.fz (D.tup sh), T.fz s, a, b, c] : List T)) rfl e (by simp)
  rw [show outP [true, true] [T.fz (D.tup sh), T.fz s] ([T.fz (D.tup sh), T.fz s, a, b, c] : List T) = [.fz (.tup sh), .fz s] by simp [outP]] at q
  exact q
theorem due_wrap1 {sh : List D} {k : Nat} {s : D} {a b c : T} (e : b__law_due (fn__law_due k) k [.fz (.tup sh), .fz s, .un, .un, .un] = some (.rt (.pl 1) [.fz (.tup sh), .fz s, a, b, c])) : fn__law_due (k + 1) [.fz (.tup sh), .fz s] = some (.ret (.fz s), [.fz (.tup sh), .fz s]) := by
  show fnD 2 5 [true, true] (b__law_due (fn__law_due k) k) _ = _
  unfold fnD
  rw [if_pos (by rfl)]
  show ((b__law_due (fn__law_due k) k [.fz (.tup sh), .fz s, .un, .un, .un]).bind _) = _
  rw [e]
  rfl
theorem v__law_due {sh : List D} (hs : GSh sh) : ∀ (k : Nat) (s : Sy), hgt s ≤ k → okS sh s = true → fn__law_due k [.fz (.tup sh), .fz s.d] = some (.ret (.fz (due sh s).d), [.fz (.tup sh), .fz s.d]) := by
  intro k
  induction k with
  | zero => intro s h; have : 1 ≤ hgt s := by cases s <;> simp [hgt]
            omega
  | succ k ih =>
    intro s hk h
    cases s with
    | yes => exact due_wrap1 (a := .fz (.str "yes")) (b := .un) (c := .un) (by simp [b__law_due, fnD, dRet, xLift, dBool, dAnd, dOr, dNot, dBl, dSh, dIsi, dVar, share, T.data, D.isi, D.bool, retW, outP, keepP, dSeq, dIf, xbLift, dC, dOp, dWith, fdCons, fdNil, D.items, Rs.w, dChain, gLe, gLt, gGt, gGe, gRI0, gRI, gAdd, gSubI, dAsg, mv, gdName, dDrop, dCallX, dCall, daCons, daNil, pars, back, putBack, resW, dIfE, dNext, dRaise, dItemsT, dItemsL, dFor, dLift, W.tm, dTru, truth, isFz, dAug, gMul1, dScal, dScalT, T.frz, D.scal, dUn, gNeg, gTupD, gLstD, xNot, xBl, gIx, dSl, gSlT, pAt, pNo, dMv, gInt, dInR, Sy.d, at0, q_put so1, q_then so1, q_either so1, q_again so1, w1])
    | no => exact due_wrap1 (a := .fz (.str "no")) (b := .un) (c := .un) (by simp [b__law_due, fnD, dRet, xLift, dBool, dAnd, dOr, dNot, dBl, dSh, dIsi, dVar, share, T.data, D.isi, D.bool, retW, outP, keepP, dSeq, dIf, xbLift, dC, dOp, dWith, fdCons, fdNil, D.items, Rs.w, dChain, gLe, gLt, gGt, gGe, gRI0, gRI, gAdd, gSubI, dAsg, mv, gdName, dDrop, dCallX, dCall, daCons, daNil, pars, back, putBack, resW, dIfE, dNext, dRaise, dItemsT, dItemsL, dFor, dLift, W.tm, dTru, truth, isFz, dAug, gMul1, dScal, dScalT, T.frz, D.scal, dUn, gNeg, gTupD, gLstD, xNot, xBl, gIx, dSl, gSlT, pAt, pNo, dMv, gInt, dInR, Sy.d, at0, q_put so2, q_then so2, q_either so2, q_again so2, w2])
    | note => exact due_wrap1 (a := .fz (.str "note")) (b := .un) (c := .un) (by simp [b__law_due, fnD, dRet, xLift, dBool, dAnd, dOr, dNot, dBl, dSh, dIsi, dVar, share, T.data, D.isi, D.bool, retW, outP, keepP, dSeq, dIf, xbLift, dC, dOp, dWith, fdCons, fdNil, D.items, Rs.w, dChain, gLe, gLt, gGt, gGe, gRI0, gRI, gAdd, gSubI, dAsg, mv, gdName, dDrop, dCallX, dCall, daCons, daNil, pars, back, putBack, resW, dIfE, dNext, dRaise, dItemsT, dItemsL, dFor, dLift, W.tm, dTru, truth, isFz, dAug, gMul1, dScal, dScalT, T.frz, D.scal, dUn, gNeg, gTupD, gLstD, xNot, xBl, gIx, dSl, gSlT, pAt, pNo, dMv, gInt, dInR, Sy.d, at0, q_put so_note, q_then so_note, q_either so_note, q_again so_note, w3])
    | is i j => exact due_wrap1 (a := .fz (.str "is")) (b := .un) (c := .un) (by simp [b__law_due, fnD, dRet, xLift, dBool, dAnd, dOr, dNot, dBl, dSh, dIsi, dVar, share, T.data, D.isi, D.bool, retW, outP, keepP, dSeq, dIf, xbLift, dC, dOp, dWith, fdCons, fdNil, D.items, Rs.w, dChain, gLe, gLt, gGt, gGe, gRI0, gRI, gAdd, gSubI, dAsg, mv, gdName, dDrop, dCallX, dCall, daCons, daNil, pars, back, putBack, resW, dIfE, dNext, dRaise, dItemsT, dItemsL, dFor, dLift, W.tm, dTru, truth, isFz, dAug, gMul1, dScal, dScalT, T.frz, D.scal, dUn, gNeg, gTupD, gLstD, xNot, xBl, gIx, dSl, gSlT, pAt, pNo, dMv, gInt, dInR, Sy.d, at0, q_put so_is, q_then so_is, q_either so_is, q_again so_is, w4])
    | nt a => exact due_wrap1 (a := .fz (.str "not")) (b := .un) (c := .un) (by simp [b__law_due, fnD, dRet, xLift, dBool, dAnd, dOr, dNot, dBl, dSh, dIsi, dVar, share, T.data, D.isi, D.bool, retW, outP, keepP, dSeq, dIf, xbLift, dC, dOp, dWith, fdCons, fdNil, D.items, Rs.w, dChain, gLe, gLt, gGt, gGe, gRI0, gRI, gAdd, gSubI, dAsg, mv, gdName, dDrop, dCallX, dCall, daCons, daNil, pars, back, putBack, resW, dIfE, dNext, dRaise, dItemsT, dItemsL, dFor, dLift, W.tm, dTru, truth, isFz, dAug, gMul1, dScal, dScalT, T.frz, D.scal, dUn, gNeg, gTupD, gLstD, xNot, xBl, gIx, dSl, gSlT, pAt, pNo, dMv, gInt, dInR, Sy.d, at0, q_put so_not, q_then so_not, q_either so_not, q_again so_not, w9])
    | put i j =>
      obtain ⟨a, b, e⟩ := dueP_ev (j := j) hs (show vOK sh [.int i, .int j] = true from h)
      generalize hd : (due sh (.put i j)).d = dd at e ⊢
      refine due_wrap (a := .fz (.str "put")) (b := a) (c := b) ?_
      unfold b__law_due
      rw [seq_nx (r1 := [.fz (.tup sh), .fz (.tup [.str "put", .int i, .int j]), .fz (.str "put"), .un, .un]) (by simp [fnD, dRet, xLift, dBool, dAnd, dOr, dNot, dBl, dSh, dIsi, dVar, share, T.data, D.isi, D.bool, retW, outP, keepP, dSeq, dIf, xbLift, dC, dOp, dWith, fdCons, fdNil, D.items, Rs.w, dChain, gLe, gLt, gGt, gGe, gRI0, gRI, gAdd, gSubI, dAsg, mv, gdName, dDrop, dCallX, dCall, daCons, daNil, pars, back, putBack, resW, dIfE, dNext, dRaise, dItemsT, dItemsL, dFor, dLift, W.tm, dTru, truth, isFz, dAug, gMul1, dScal, dScalT, T.frz, D.scal, dUn, gNeg, gTupD, gLstD, xNot, xBl, gIx, dSl, gSlT, pAt, pNo, dMv, gInt, dInR, Sy.d, at0])]
      refine seq_rt ?_
      change dIf _ dueP _ _ = _
      have t : (xbLift (dBl (dSh (dOp gEq (dSh (dVar 2)) (dSh (dC (.str "put"))))))) [.fz (.tup sh), .fz (.tup [.str "put", .int i, .int j]), .fz (.str "put"), .un, .un] = some (.inl true, [.fz (.tup sh), .fz (.tup [.str "put", .int i, .int j]), .fz (.str "put"), .un, .un]) := by simp [fnD, dRet, xLift, dBool, dAnd, dOr, dNot, dBl, dSh, dIsi, dVar, share, T.data, D.isi, D.bool, retW, outP, keepP, dSeq, dIf, xbLift, dC, dOp, dWith, fdCons, fdNil, D.items, Rs.w, dChain, gLe, gLt, gGt, gGe, gRI0, gRI, gAdd, gSubI, dAsg, mv, gdName, dDrop, dCallX, dCall, daCons, daNil, pars, back, putBack, resW, dIfE, dNext, dRaise, dItemsT, dItemsL, dFor, dLift, W.tm, dTru, truth, isFz, dAug, gMul1, dScal, dScalT, T.frz, D.scal, dUn, gNeg, gTupD, gLstD, xNot, xBl, gIx, dSl, gSlT, pAt, pNo, dMv, gInt, dInR, q_put so_put, w5]
      unfold dIf
      rw [t]
      exact e
    | thn a b =>
      simp only [hgt] at hk
      simp only [okS, Bool.and_eq_true] at h
      have ha := ih a (by omega) h.1
      have hb := ih b (by omega) h.2
      simp only [due, Sy.d]
      generalize (due sh a).d = da at ha ⊢
      generalize (due sh b).d = db at hb ⊢
      exact due_wrap (a := .fz (.str "then")) (b := .un) (c := .un) (by simp [b__law_due, fnD, dRet, xLift, dBool, dAnd, dOr, dNot, dBl, dSh, dIsi, dVar, share, T.data, D.isi, D.bool, retW, outP, keepP, dSeq, dIf, xbLift, dC, dOp, dWith, fdCons, fdNil, D.items, Rs.w, dChain, gLe, gLt, gGt, gGe, gRI0, gRI, gAdd, gSubI, dAsg, mv, gdName, dDrop, dCallX, dCall, daCons, daNil, pars, back, putBack, resW, dIfE, dNext, dRaise, dItemsT, dItemsL, dFor, dLift, W.tm, dTru, truth, isFz, dAug, gMul1, dScal, dScalT, T.frz, D.scal, dUn, gNeg, gTupD, gLstD, xNot, xBl, gIx, dSl, gSlT, pAt, pNo, dMv, gInt, dInR, at0, at1, at2, q_put so6, q_then so6, w6, ha, hb])
    | eit a b =>
      simp only [hgt] at hk
      simp only [okS, Bool.and_eq_true] at h
      have ha := ih a (by omega) h.1
      have hb := ih b (by omega) h.2
      simp only [due, Sy.d]
      generalize (due sh a).d = da at ha ⊢
      generalize (due sh b).d = db at hb ⊢
      exact due_wrap (a := .fz (.str "either")) (b := .un) (c := .un) (by simp [b__law_due, fnD, dRet, xLift, dBool, dAnd, dOr, dNot, dBl, dSh, dIsi, dVar, share, T.data, D.isi, D.bool, retW, outP, keepP, dSeq, dIf, xbLift, dC, dOp, dWith, fdCons, fdNil, D.items, Rs.w, dChain, gLe, gLt, gGt, gGe, gRI0, gRI, gAdd, gSubI, dAsg, mv, gdName, dDrop, dCallX, dCall, daCons, daNil, pars, back, putBack, resW, dIfE, dNext, dRaise, dItemsT, dItemsL, dFor, dLift, W.tm, dTru, truth, isFz, dAug, gMul1, dScal, dScalT, T.frz, D.scal, dUn, gNeg, gTupD, gLstD, xNot, xBl, gIx, dSl, gSlT, pAt, pNo, dMv, gInt, dInR, at0, at1, at2, q_put so7, q_then so7, q_either so7, w7, ha, hb])
    | aga a =>
      simp only [hgt] at hk
      have h' : okS sh a = true := h
      have ha := ih a (by omega) h'
      simp only [due, Sy.d]
      generalize (due sh a).d = da at ha ⊢
      exact due_wrap (a := .fz (.str "again")) (b := .un) (c := .un) (by simp [b__law_due, fnD, dRet, xLift, dBool, dAnd, dOr, dNot, dBl, dSh, dIsi, dVar, share, T.data, D.isi, D.bool, retW, outP, keepP, dSeq, dIf, xbLift, dC, dOp, dWith, fdCons, fdNil, D.items, Rs.w, dChain, gLe, gLt, gGt, gGe, gRI0, gRI, gAdd, gSubI, dAsg, mv, gdName, dDrop, dCallX, dCall, daCons, daNil, pars, back, putBack, resW, dIfE, dNext, dRaise, dItemsT, dItemsL, dFor, dLift, W.tm, dTru, truth, isFz, dAug, gMul1, dScal, dScalT, T.frz, D.scal, dUn, gNeg, gTupD, gLstD, xNot, xBl, gIx, dSl, gSlT, pAt, pNo, dMv, gInt, dInR, at0, at1, q_put so_again, q_then so_again, q_either so_again, q_again so_again, w8, ha])
end K5

set_option Elab.async false
set_option linter.all false
set_option maxRecDepth 100000
set_option maxHeartbeats 8000000
namespace K5
open PySem PySem.Spec PyProof.Rows L2 Q
def shs1 : List (List Int) := [[2, 2], [3], [2, 3], [4, 2], [2, 2, 2], [3, 3], [1, 2], [4, 4], [3, 3, 3], [2, 1, 3], [1]]
def shs2 : List (List Int) := [[2], [4, 3, 2]]
def shD (l : List (List Int)) : List D := l.map fun x => .tup (x.map .int)
theorem shs_ok : (shs1 ++ shs2).all (fun l => l.all (fun x => decide (1 ≤ x ∧ x ≤ 4)) && decide (1 ≤ l.length) && decide (l.length ≤ 3) && decide (prodI l ≤ 27)) = true := by decide +kernel
theorem gsh_of {l : List Int} (h : l ∈ shs1 ++ shs2) : GSh (l.map .int) := by
  have := List.all_eq_true.mp shs_ok l h
  simp only [Bool.and_eq_true, decide_eq_true_eq] at this
  obtain ⟨⟨⟨h1, h2⟩, h3⟩, h4⟩ := this
  refine ⟨l, rfl, fun x hx => ?_, h2, h3, h4⟩
  have := List.all_eq_true.mp h1 x hx
  simpa using this
theorem cat_ok {a b : List D} (h : a.length + b.length ≤ 1000000) : gCatL [.lst a, .lst b] = some (.newL (a ++ b)) := by simp [gCatL, h]
theorem v__law_shape (p : Int) : ∃ (sh : List D) (p' : Int), GSh sh ∧ fn__law_shape [.ls [.fz (.int p)]] = some (.ret (.fz (.tup sh)), [.ls [.fz (.int p')]]) := by
  have ht := take_at (p := p) (k := 13) (by decide) (by decide)
  have r0 := Int.emod_nonneg p (show (13 : Int) ≠ 0 by decide)
  have r1 := Int.emod_lt_of_pos p (show (0 : Int) < 13 by decide)
  generalize hr : p % 13 = r at *
  have hlen : (shs1 ++ shs2).length = 13 := rfl
  have ri : r.toNat < (shs1 ++ shs2).length := by rw [hlen]; omega
  have hm := List.getElem_mem ri
  generalize hg : (shs1 ++ shs2)[r.toNat] = l at hm
  have hat : atI (shD shs1 ++ shD shs2) r = some (.tup (l.map .int)) := by
    have e : shD shs1 ++ shD shs2 = shD (shs1 ++ shs2) := by simp [shD]
    rw [e, atN r0 (by simp only [shD, List.length_map, hlen]; omega)]
    simp only [shD]
    rw [List.getElem?_map, List.getElem?_eq_getElem ri, hg]
    rfl
  refine ⟨l.map .int, p / 13, gsh_of hm, ?_⟩
  have key : b__law_shape [.ls [.fz (.int p)], .un] = some (.rt (.sh (.tup (l.map .int))) [.ls [.fz (.int (p / 13))], .fz (.lst (shD shs1 ++ shD shs2))]) := by
    unfold b__law_shape
    rw [seq_nx (r1 := [.ls [.fz (.int p)], .ls ((shD shs1).map .fz)]) (by rfl)]
    have sv : dSh (dVar 1) [.ls [.fz (.int p)], .ls ((shD shs1).map .fz)] = some (.lst (shD shs1), [.ls [.fz (.int p)], .fz (.lst (shD shs1))]) := by
      simp only [dSh, dVar, List.getElem?_cons_succ, List.getElem?_cons_zero, Option.bind_some, share, fzs_data]
      rfl
    have cat : gCatL [.lst (shD shs1), .lst (shD shs2)] = some (.newL (shD shs1 ++ shD shs2)) := cat_ok (by simp [shD, shs1, shs2])
    have s2 := asg_nw (i := 1) (op_eval (g := gCatL) (z := .newL (shD shs1 ++ shD shs2)) sv (fb := (dSh (dWith (fdCons (dSh (dWith (fdCons (dSh (dC (.int 2))) fdNil) gTupD)) (fdCons (dSh (dWith (fdCons (dSh (dC (.int 4))) (fdCons (dSh (dC (.int 3))) (fdCons (dSh (dC (.int 2))) fdNil))) gTupD)) fdNil)) gLstD))) (r2 := [.ls [.fz (.int p)], .fz (.lst (shD shs1))]) (b := .lst (shD shs2)) (by rfl) cat)
    rw [seq_nx s2]
    have sv2 : dSh (dVar 1) [.ls [.fz (.int p)], .ls ((shD shs1 ++ shD shs2).map .fz)] = some (.lst (shD shs1 ++ shD shs2), [.ls [.fz (.int p)], .fz (.lst (shD shs1 ++ shD shs2))]) := by
      simp only [dSh, dVar, List.getElem?_cons_succ, List.getElem?_cons_zero, Option.bind_some, share, fzs_data]
      rfl
    have hc : dSh (dCall fn__law_take (daCons (dVar 0) (daCons (dC (.int 13)) daNil))) [.ls [.fz (.int p)], .fz (.lst (shD shs1 ++ shD shs2))] = some (.int r, [.ls [.fz (.int (p / 13))], .fz (.lst (shD shs1 ++ shD shs2))]) := by
      simp [fnD, dRet, xLift, dBool, dAnd, dOr, dNot, dBl, dSh, dIsi, dVar, share, T.data, D.isi, D.bool, retW, outP, keepP, dSeq, dIf, xbLift, dC, dOp, dWith, fdCons, fdNil, D.items, Rs.w, dChain, gLe, gLt, gGt, gGe, gRI0, gRI, gAdd, gSubI, dAsg, mv, gdName, dDrop, dCallX, dCall, daCons, daNil, pars, back, putBack, resW, dIfE, dNext, dRaise, dItemsT, dItemsL, dFor, dLift, W.tm, dTru, truth, isFz, dAug, gMul1, dScal, dScalT, T.frz, D.scal, dUn, gNeg, gTupD, gLstD, xNot, xBl, gIx, dSl, gSlT, pAt, pNo, dMv, gInt, dInR, ht]
    have gi : gIx [.lst (shD shs1 ++ shD shs2), .int r] = some (.val (.tup (l.map .int))) := by
      simp only [gIx, D.items, Option.bind_some, hat]
    have o := op_eval (g := gIx) sv2 hc gi
    change dRet (xLift (dOp gIx (dSh (dVar 1)) (dSh (dCall fn__law_take (daCons (dVar 0) (daCons (dC (.int 13)) daNil)))))) [.ls [.fz (.int p)], .ls ((shD shs1 ++ shD shs2).map .fz)] = _
    unfold dRet xLift
    rw [o]
    rfl
  have q := fn_rt (n := 1) (N := 2) (fx := [true]) (b := b__law_shape) (ps := ([T.ls [T.fz (.int p)]] : List T)) (d := .tup (l.map .int)) (r := ([T.ls [T.fz (.int (p / 13))], T.fz (.lst (shD shs1 ++ shD shs2))] : List T)) rfl key (by simp)
  exact q
theorem v__law_named {sh : List D} (hs : GSh sh) {w : Str} (p : Int) : ∃ (i j p' : Int), vOK sh [.int i, .int j] = true ∧ fn__law_named [.ls [.fz (.int p)], .fz (.str w), .fz (.tup sh)] = some (.ret (.fz (.tup [.str w, .int i, .int j])), [.ls [.fz (.int p')], .fz (.str w), .fz (.tup sh)]) := by
  obtain ⟨l, rfl, hx, h1, h3, _⟩ := hs.ex
  have n0 : (0 : Int) < (l.length : Int) := by omega
  have ht := take_at (p := p) (k := l.length) n0 (by omega)
  have r0 := Int.emod_nonneg p (show (l.length : Int) ≠ 0 by omega)
  have r1 := Int.emod_lt_of_pos p n0
  generalize hr : p % (l.length : Int) = r at *
  have ri : r.toNat < l.length := by omega
  obtain ⟨v1, v4⟩ := hx l[r.toNat] (List.getElem_mem ri)
  have hg : (l.map D.int)[r.toNat]? = some (.int l[r.toNat]) := by rw [List.getElem?_map, List.getElem?_eq_getElem ri]; rfl
  have hat : atI (l.map D.int) r = some (.int l[r.toNat]) := by
    rw [atN r0 (by rw [List.length_map]; exact r1)]
    exact hg
  have ht2 := take_at (p := p / (l.length : Int)) (k := l[r.toNat]) (by omega) (by omega)
  have q0 := Int.emod_nonneg (p / (l.length : Int)) (show l[r.toNat] ≠ 0 by omega)
  have q1 := Int.emod_lt_of_pos (p / (l.length : Int)) (show 0 < l[r.toNat] by omega)
  generalize hq : (p / (l.length : Int)) % l[r.toNat] = q at *
  refine ⟨r, q, p / (l.length : Int) / l[r.toNat], ?_, ?_⟩
  · simp only [vOK, hg, blw, Bool.and_eq_true, decide_eq_true_eq]
    exact ⟨r0, q0, q1⟩
  · simp [fn__law_named, b__law_named, fnD, dRet, xLift, dBool, dAnd, dOr, dNot, dBl, dSh, dIsi, dVar, share, T.data, D.isi, D.bool, retW, outP, keepP, dSeq, dIf, xbLift, dC, dOp, dWith, fdCons, fdNil, D.items, Rs.w, dChain, gLe, gLt, gGt, gGe, gRI0, gRI, gAdd, gSubI, dAsg, mv, gdName, dDrop, dCallX, dCall, daCons, daNil, pars, back, putBack, resW, dIfE, dNext, dRaise, dItemsT, dItemsL, dFor, dLift, W.tm, dTru, truth, isFz, dAug, gMul1, dScal, dScalT, T.frz, D.scal, dUn, gNeg, gTupD, gLstD, xNot, xBl, gIx, dSl, gSlT, pAt, pNo, dMv, gInt, dInR, len_tup, ht, hat, ht2]
theorem pick2 (a b : D) {i : Int} (h0 : 0 ≤ i) (h1 : i < 2) : ∃ d, (d = a ∨ d = b) ∧ atI [a, b] i = some d := by
  have : i = 0 ∨ i = 1 := by omega
  rcases this with rfl | rfl
  · exact ⟨a, Or.inl rfl, rfl⟩
  · exact ⟨b, Or.inr rfl, rfl⟩
theorem pick3 (a b c : D) {i : Int} (h0 : 0 ≤ i) (h1 : i < 3) : ∃ d, (d = a ∨ d = b ∨ d = c) ∧ atI [a, b, c] i = some d := by
  have : i = 0 ∨ i = 1 ∨ i = 2 := by omega
  rcases this with rfl | rfl | rfl
  · exact ⟨a, Or.inl rfl, rfl⟩
  · exact ⟨b, Or.inr (Or.inl rfl), rfl⟩
  · exact ⟨c, Or.inr (Or.inr rfl), rfl⟩
theorem v__law_test {sh : List D} (hs : GSh sh) : ∀ (n k : Nat) (p : Int), n < k → ∃ (s : Sy) (p' : Int), okT sh s = true ∧ sz s + 1 ≤ 2 ^ (n + 1) ∧ hgt s ≤ n + 1 ∧ fn__law_test k [.ls [.fz (.int p)], .fz (.tup sh), .fz (.int n)] = some (.ret (.fz s.d), [.ls [.fz (.int p')], .fz (.tup sh), .fz (.int n)]) := by
  intro n
  induction n with
  | zero =>
    intro k p hk
    obtain ⟨k, rfl⟩ : ∃ j, k = j + 1 := ⟨k - 1, by omega⟩
    have ht := take_at (p := p) (k := 9) (by decide) (by decide)
    have r0 := Int.emod_nonneg p (show (9 : Int) ≠ 0 by decide)
    have r1 := Int.emod_lt_of_pos p (show (0 : Int) < 9 by decide)
    generalize hr : p % 9 = r at *
    by_cases c : r = 3
    · subst c
      have ht2 := take_at (p := p / 9) (k := 2) (by decide) (by decide)
      obtain ⟨d, hd, hat⟩ := pick2 (.tup [.str "yes"]) (.tup [.str "no"]) (Int.emod_nonneg (p / 9) (by decide)) (Int.emod_lt_of_pos (p / 9) (show (0 : Int) < 2 by decide))
      rcases hd with rfl | rfl
      · refine ⟨.yes, p / 9 / 2, rfl, by simp [sz], by simp [hgt], ?_⟩
        simp [fn__law_test, b__law_test, fnD, dRet, xLift, dBool, dAnd, dOr, dNot, dBl, dSh, dIsi, dVar, share, T.data, D.isi, D.bool, retW, outP, keepP, dSeq, dIf, xbLift, dC, dOp, dWith, fdCons, fdNil, D.items, Rs.w, dChain, gLe, gLt, gGt, gGe, gRI0, gRI, gAdd, gSubI, dAsg, mv, gdName, dDrop, dCallX, dCall, daCons, daNil, pars, back, putBack, resW, dIfE, dNext, dRaise, dItemsT, dItemsL, dFor, dLift, W.tm, dTru, truth, isFz, dAug, gMul1, dScal, dScalT, T.frz, D.scal, dUn, gNeg, gTupD, gLstD, xNot, xBl, gIx, dSl, gSlT, pAt, pNo, dMv, gInt, dInR, ht, ht2, eq_int, dataL, hat, Sy.d]
      · refine ⟨.no, p / 9 / 2, rfl, by simp [sz], by simp [hgt], ?_⟩
        simp [fn__law_test, b__law_test, fnD, dRet, xLift, dBool, dAnd, dOr, dNot, dBl, dSh, dIsi, dVar, share, T.data, D.isi, D.bool, retW, outP, keepP, dSeq, dIf, xbLift, dC, dOp, dWith, fdCons, fdNil, D.items, Rs.w, dChain, gLe, gLt, gGt, gGe, gRI0, gRI, gAdd, gSubI, dAsg, mv, gdName, dDrop, dCallX, dCall, daCons, daNil, pars, back, putBack, resW, dIfE, dNext, dRaise, dItemsT, dItemsL, dFor, dLift, W.tm, dTru, truth, isFz, dAug, gMul1, dScal, dScalT, T.frz, D.scal, dUn, gNeg, gTupD, gLstD, xNot, xBl, gIx, dSl, gSlT, pAt, pNo, dMv, gInt, dInR, ht, ht2, eq_int, dataL, hat, Sy.d]
    · obtain ⟨i, j, p', hv, hc⟩ := v__law_named (w := "is") hs (p / 9)
      have c' : (r == 3) = false := by simpa using c
      refine ⟨.is i j, p', hv, by simp [sz], by simp [hgt], ?_⟩
      simp [fn__law_test, b__law_test, fnD, dRet, xLift, dBool, dAnd, dOr, dNot, dBl, dSh, dIsi, dVar, share, T.data, D.isi, D.bool, retW, outP, keepP, dSeq, dIf, xbLift, dC, dOp, dWith, fdCons, fdNil, D.items, Rs.w, dChain, gLe, gLt, gGt, gGe, gRI0, gRI, gAdd, gSubI, dAsg, mv, gdName, dDrop, dCallX, dCall, daCons, daNil, pars, back, putBack, resW, dIfE, dNext, dRaise, dItemsT, dItemsL, dFor, dLift, W.tm, dTru, truth, isFz, dAug, gMul1, dScal, dScalT, T.frz, D.scal, dUn, gNeg, gTupD, gLstD, xNot, xBl, gIx, dSl, gSlT, pAt, pNo, dMv, gInt, dInR, ht, eq_int, c, c', hc, Sy.d]
  | succ n ih =>
    intro k p hk
    obtain ⟨k, rfl⟩ : ∃ j, k = j + 1 := ⟨k - 1, by omega⟩
    have ht := take_at (p := p) (k := 9) (by decide) (by decide)
    have r0 := Int.emod_nonneg p (show (9 : Int) ≠ 0 by decide)
    have r1 := Int.emod_lt_of_pos p (show (0 : Int) < 9 by decide)
    generalize hr : p % 9 = r at *
    have nz : ((n : Int) + 1 == 0) = false := by simp; omega
    have nz' : ¬ ((n : Int) + 1 = 0) := by omega
    have n1 : ((n : Int) + 1 - 1) = n := by omega
    have cast : ((n + 1 : Nat) : Int) = (n : Int) + 1 := by omega
    have p2 : 2 ^ (n + 1 + 1) = 2 * 2 ^ (n + 1) := by rw [Nat.pow_succ]; omega
    have p1 : 2 ≤ 2 ^ (n + 1) := by rw [Nat.pow_succ]; have := Nat.one_le_pow n 2 (by decide); omega
    rw [cast, p2]
    by_cases c4 : r < 4
    · by_cases c : r = 3
      · subst c
        have ht2 := take_at (p := p / 9) (k := 2) (by decide) (by decide)
        obtain ⟨d, hd, hat⟩ := pick2 (.tup [.str "yes"]) (.tup [.str "no"]) (Int.emod_nonneg (p / 9) (by decide)) (Int.emod_lt_of_pos (p / 9) (show (0 : Int) < 2 by decide))
        rcases hd with rfl | rfl
        · refine ⟨.yes, p / 9 / 2, rfl, by simp only [sz]; omega, by simp [hgt], ?_⟩
          simp [fn__law_test, b__law_test, fnD, dRet, xLift, dBool, dAnd, dOr, dNot, dBl, dSh, dIsi, dVar, share, T.data, D.isi, D.bool, retW, outP, keepP, dSeq, dIf, xbLift, dC, dOp, dWith, fdCons, fdNil, D.items, Rs.w, dChain, gLe, gLt, gGt, gGe, gRI0, gRI, gAdd, gSubI, dAsg, mv, gdName, dDrop, dCallX, dCall, daCons, daNil, pars, back, putBack, resW, dIfE, dNext, dRaise, dItemsT, dItemsL, dFor, dLift, W.tm, dTru, truth, isFz, dAug, gMul1, dScal, dScalT, T.frz, D.scal, dUn, gNeg, gTupD, gLstD, xNot, xBl, gIx, dSl, gSlT, pAt, pNo, dMv, gInt, dInR, ht, ht2, eq_int, nz, nz', dataL, hat, Sy.d]
        · refine ⟨.no, p / 9 / 2, rfl, by simp only [sz]; omega, by simp [hgt], ?_⟩
          simp [fn__law_test, b__law_test, fnD, dRet, xLift, dBool, dAnd, dOr, dNot, dBl, dSh, dIsi, dVar, share, T.data, D.isi, D.bool, retW, outP, keepP, dSeq, dIf, xbLift, dC, dOp, dWith, fdCons, fdNil, D.items, Rs.w, dChain, gLe, gLt, gGt, gGe, gRI0, gRI, gAdd, gSubI, dAsg, mv, gdName, dDrop, dCallX, dCall, daCons, daNil, pars, back, putBack, resW, dIfE, dNext, dRaise, dItemsT, dItemsL, dFor, dLift, W.tm, dTru, truth, isFz, dAug, gMul1, dScal, dScalT, T.frz, D.scal, dUn, gNeg, gTupD, gLstD, xNot, xBl, gIx, dSl, gSlT, pAt, pNo, dMv, gInt, dInR, ht, ht2, eq_int, nz, nz', dataL, hat, Sy.d]
      · obtain ⟨i, j, p', hv, hc⟩ := v__law_named (w := "is") hs (p / 9)
        have c' : (r == 3) = false := by simpa using c
        refine ⟨.is i j, p', hv, by simp only [sz]; omega, by simp [hgt], ?_⟩
        simp [fn__law_test, b__law_test, fnD, dRet, xLift, dBool, dAnd, dOr, dNot, dBl, dSh, dIsi, dVar, share, T.data, D.isi, D.bool, retW, outP, keepP, dSeq, dIf, xbLift, dC, dOp, dWith, fdCons, fdNil, D.items, Rs.w, dChain, gLe, gLt, gGt, gGe, gRI0, gRI, gAdd, gSubI, dAsg, mv, gdName, dDrop, dCallX, dCall, daCons, daNil, pars, back, putBack, resW, dIfE, dNext, dRaise, dItemsT, dItemsL, dFor, dLift, W.tm, dTru, truth, isFz, dAug, gMul1, dScal, dScalT, T.frz, D.scal, dUn, gNeg, gTupD, gLstD, xNot, xBl, gIx, dSl, gSlT, pAt, pNo, dMv, gInt, dInR, ht, eq_int, nz, nz', c4, c, c', hc, Sy.d]
    · obtain ⟨a, q1, oa, za, ga, ha⟩ := ih k (p / 9) (by omega)
      by_cases c6 : r < 6
      · refine ⟨.nt a, q1, oa, by simp only [sz]; omega, by simp only [hgt]; omega, ?_⟩
        simp only [Sy.d]
        generalize a.d = da at ha ⊢
        simp [fn__law_test, b__law_test, fnD, dRet, xLift, dBool, dAnd, dOr, dNot, dBl, dSh, dIsi, dVar, share, T.data, D.isi, D.bool, retW, outP, keepP, dSeq, dIf, xbLift, dC, dOp, dWith, fdCons, fdNil, D.items, Rs.w, dChain, gLe, gLt, gGt, gGe, gRI0, gRI, gAdd, gSubI, dAsg, mv, gdName, dDrop, dCallX, dCall, daCons, daNil, pars, back, putBack, resW, dIfE, dNext, dRaise, dItemsT, dItemsL, dFor, dLift, W.tm, dTru, truth, isFz, dAug, gMul1, dScal, dScalT, T.frz, D.scal, dUn, gNeg, gTupD, gLstD, xNot, xBl, gIx, dSl, gSlT, pAt, pNo, dMv, gInt, dInR, ht, eq_int, nz, nz', c4, c6, n1, ha]
      · obtain ⟨b, q2, ob, zb, gb, hb⟩ := ih k q1 (by omega)
        obtain ⟨x, hx, hat⟩ := pick2 (.str "then") (.str "either") (Int.emod_nonneg r (by decide)) (Int.emod_lt_of_pos r (show (0 : Int) < 2 by decide))
        rcases hx with rfl | rfl
        · refine ⟨.thn a b, q2, by simp [okT, oa, ob], by simp only [sz]; omega, by simp only [hgt]; omega, ?_⟩
          simp only [Sy.d]
          generalize a.d = da at ha ⊢
          generalize b.d = db at hb ⊢
          simp [fn__law_test, b__law_test, fnD, dRet, xLift, dBool, dAnd, dOr, dNot, dBl, dSh, dIsi, dVar, share, T.data, D.isi, D.bool, retW, outP, keepP, dSeq, dIf, xbLift, dC, dOp, dWith, fdCons, fdNil, D.items, Rs.w, dChain, gLe, gLt, gGt, gGe, gRI0, gRI, gAdd, gSubI, dAsg, mv, gdName, dDrop, dCallX, dCall, daCons, daNil, pars, back, putBack, resW, dIfE, dNext, dRaise, dItemsT, dItemsL, dFor, dLift, W.tm, dTru, truth, isFz, dAug, gMul1, dScal, dScalT, T.frz, D.scal, dUn, gNeg, gTupD, gLstD, xNot, xBl, gIx, dSl, gSlT, pAt, pNo, dMv, gInt, dInR, ht, eq_int, nz, nz', c4, c6, n1, ha, hb, dataL, gMod, hat]
        · refine ⟨.eit a b, q2, by simp [okT, oa, ob], by simp only [sz]; omega, by simp only [hgt]; omega, ?_⟩
          simp only [Sy.d]
          generalize a.d = da at ha ⊢
          generalize b.d = db at hb ⊢
          simp [fn__law_test, b__law_test, fnD, dRet, xLift, dBool, dAnd, dOr, dNot, dBl, dSh, dIsi, dVar, share, T.data, D.isi, D.bool, retW, outP, keepP, dSeq, dIf, xbLift, dC, dOp, dWith, fdCons, fdNil, D.items, Rs.w, dChain, gLe, gLt, gGt, gGe, gRI0, gRI, gAdd, gSubI, dAsg, mv, gdName, dDrop, dCallX, dCall, daCons, daNil, pars, back, putBack, resW, dIfE, dNext, dRaise, dItemsT, dItemsL, dFor, dLift, W.tm, dTru, truth, isFz, dAug, gMul1, dScal, dScalT, T.frz, D.scal, dUn, gNeg, gTupD, gLstD, xNot, xBl, gIx, dSl, gSlT, pAt, pNo, dMv, gInt, dInR, ht, eq_int, nz, nz', c4, c6, n1, ha, hb, dataL, gMod, hat]
end K5

set_option Elab.async false
set_option linter.all false
set_option maxRecDepth 100000
set_option maxHeartbeats 8000000
namespace K5
open PySem PySem.Spec PyProof.Rows L2 Q
abbrev ones (m : Nat) : List T := (List.replicate m (D.int 1)).map .fz
theorem ones_succ (m : Nat) : ones (m + 1) = ones m ++ [.fz (.int 1)] := by simp [ones, List.replicate_succ']
theorem ones_frz (m : Nat) : (T.ls (ones m)).frz = .fz (.lst (List.replicate m (.int 1))) := by unfold T.frz; rw [fzs_data]
theorem pile_frz (p : Int) : (T.ls [.fz (.int p)]).frz = .fz (.lst [.int p]) := rfl
theorem notes_test {sh : List D} {N r p : Int} {m : Nat} : (xbLift (dScalT (dAnd (dBl (dSh (dOp gEq (dSh (dVar 4)) (dSh (dC (.int 0)))))) (dBl (dSh (dOp gGt (dSh (dLift (dScal (dSh (dWith (fdCons (dSh (dVar 3)) fdNil) gLen))))) (dSh (dC (.int 0))))))))) [.ls [.fz (.int p)], .fz (.tup sh), .fz (.int N), .ls (ones m), .fz (.int r), .un] = some (.inl (decide (r = 0 ∧ 0 < m)), [.ls [.fz (.int p)], .fz (.tup sh), .fz (.int N), .ls (ones m), .fz (.int r), .un]) := by
  have g : gLen [.lst (List.replicate m (.int 1))] = some (.val (.int m)) := by
    simp [gLen, D.items]
  have fz : ∀ d : D, (T.fz d).frz = .fz d := fun d => rfl
  have fu : T.un.frz = .un := rfl
  simp only [xbLift, dScalT, List.map_cons, List.map_nil, ones_frz, pile_frz, fz, fu]
  by_cases c : r = 0
  · subst c
    by_cases c2 : 0 < m
    · have c3 : (0 : Int) < (m : Int) := by omega
      simp [dAnd, dBl, dSh, dOp, dWith, fdCons, fdNil, dVar, dC, share, T.data, eq_int, Rs.w, D.bool, dLift, dScal, fz, fu, g, D.scal, gGt, gRI0, c2, c3]
    · have c3 : ¬ (0 : Int) < (m : Int) := by omega
      simp [dAnd, dBl, dSh, dOp, dWith, fdCons, fdNil, dVar, dC, share, T.data, eq_int, Rs.w, D.bool, dLift, dScal, fz, fu, g, D.scal, gGt, gRI0, c2, c3]
  · have c' : (r == 0) = false := by simpa using c
    simp [dAnd, dBl, dSh, dOp, dWith, fdCons, fdNil, dVar, dC, share, T.data, eq_int, Rs.w, D.bool, c, c']
def restS (self : FnT) (kk : Nat) : SD := (dSeq (dIf (xbLift (dOr (dBl (dSh (dOp gEq (dSh (dVar 2)) (dSh (dC (.int 0)))))) (dBl (dSh (dOp gLt (dSh (dVar 4)) (dSh (dC (.int 5)))))))) (dSeq (dIf (xbLift (dBl (dSh (dOp gEq (dSh (dVar 4)) (dSh (dC (.int 1))))))) (dRet (xLift (dOp gIx (dSh (dWith (fdCons (dSh (dWith (fdCons (dSh (dC (.str "yes"))) fdNil) gTupD)) (fdCons (dSh (dWith (fdCons (dSh (dC (.str "no"))) fdNil) gTupD)) (fdCons (dSh (dWith (fdCons (dSh (dC (.str "yes"))) fdNil) gTupD)) fdNil))) gLstD)) (dSh (dCall fn__law_take (daCons (dVar 0) (daCons (dC (.int 3)) daNil))))))) dNext)
    (dRet (xLift (dCall fn__law_named (daCons (dVar 0) (daCons (dOp gIx (dSh (dWith (fdCons (dSh (dC (.str "put"))) (fdCons (dSh (dC (.str "is"))) (fdCons (dSh (dC (.str "put"))) fdNil))) gLstD)) (dSh (dOp gMod (dSh (dVar 4)) (dSh (dC (.int 3)))))) (daCons (dVar 1) daNil))))))) dNext)
    (dSeq (dIf (xbLift (dBl (dSh (dOp gLt (dSh (dVar 4)) (dSh (dC (.int 7))))))) (dRet (xLift (dWith (fdCons (dSh (dC (.str "not"))) (fdCons (dSh (dCall (fn__law_test kk) (daCons (dVar 0) (daCons (dVar 1) (daCons (dWith (fdCons (dSh (dOp gSubI (dSh (dVar 2)) (dSh (dC (.int 1))))) (fdCons (dSh (dC (.int 2))) fdNil)) gMin2) daNil))))) fdNil)) gTupD))) dNext)
    (dSeq (dIf (xbLift (dBl (dSh (dOp gLt (dSh (dVar 4)) (dSh (dC (.int 9))))))) (dRet (xLift (dWith (fdCons (dSh (dC (.str "again"))) (fdCons (dSh (dCall self (daCons (dVar 0) (daCons (dVar 1) (daCons (dOp gSubI (dSh (dVar 2)) (dSh (dC (.int 1)))) (daCons (dVar 3) daNil)))))) fdNil)) gTupD))) dNext)
    (dSeq (dAsg (xLift (dCall self (daCons (dVar 0) (daCons (dVar 1) (daCons (dOp gSubI (dSh (dVar 2)) (dSh (dC (.int 1)))) (daCons (dVar 3) daNil)))))) (gdName 5))
    (dRet (xLift (dWith (fdCons (dSh (dOp gIx (dSh (dWith (fdCons (dSh (dC (.str "then"))) (fdCons (dSh (dC (.str "either"))) fdNil)) gLstD)) (dSh (dOp gMod (dSh (dVar 4)) (dSh (dC (.int 2))))))) (fdCons (dSh (dVar 5)) (fdCons (dSh (dCall self (daCons (dVar 0) (daCons (dVar 1) (daCons (dOp gSubI (dSh (dVar 2)) (dSh (dC (.int 1)))) (daCons (dVar 3) daNil)))))) fdNil))) gTupD))))))) 
theorem flatS {self : FnT} {kk : Nat} {sh : List D} {N p r : Int} {m : Nat} (hs : GSh sh) (r0 : 0 ≤ r) (hn : N = 0 ∨ r < 5) : ∃ (s : Sy) (p' : Int), okS sh s = true ∧ notes s = 0 ∧ sz s = 1 ∧ hgt s = 1 ∧ restS self kk [.ls [.fz (.int p)], .fz (.tup sh), .fz (.int N), .ls (ones m), .fz (.int r), .un] = some (.rt (.sh s.d) [.ls [.fz (.int p')], .fz (.tup sh), .fz (.int N), .ls (ones m), .fz (.int r), .un]) := by
  generalize ones m = L
  have tt : (xbLift (dOr (dBl (dSh (dOp gEq (dSh (dVar 2)) (dSh (dC (.int 0)))))) (dBl (dSh (dOp gLt (dSh (dVar 4)) (dSh (dC (.int 5)))))))) [.ls [.fz (.int p)], .fz (.tup sh), .fz (.int N), .ls L, .fz (.int r), .un] = some (.inl true, [.ls [.fz (.int p)], .fz (.tup sh), .fz (.int N), .ls L, .fz (.int r), .un]) := by
    by_cases z : N = 0
    · subst z; simp [fnD, dRet, xLift, dBool, dAnd, dOr, dNot, dBl, dSh, dIsi, dVar, share, T.data, D.isi, D.bool, retW, outP, keepP, dSeq, dIf, xbLift, dC, dOp, dWith, fdCons, fdNil, D.items, Rs.w, dChain, gLe, gLt, gGt, gGe, gRI0, gRI, gAdd, gSubI, dAsg, mv, gdName, dDrop, dCallX, dCall, daCons, daNil, pars, back, putBack, resW, dIfE, dNext, dRaise, dItemsT, dItemsL, dFor, dLift, W.tm, dTru, truth, isFz, dAug, gMul1, dScal, dScalT, T.frz, D.scal, dUn, gNeg, gTupD, gLstD, xNot, xBl, gIx, dSl, gSlT, pAt, pNo, dMv, gInt, dInR, eq_int]
    · have z' : (N == 0) = false := by simpa using z
      have : r < 5 := hn.resolve_left z
      simp [fnD, dRet, xLift, dBool, dAnd, dOr, dNot, dBl, dSh, dIsi, dVar, share, T.data, D.isi, D.bool, retW, outP, keepP, dSeq, dIf, xbLift, dC, dOp, dWith, fdCons, fdNil, D.items, Rs.w, dChain, gLe, gLt, gGt, gGe, gRI0, gRI, gAdd, gSubI, dAsg, mv, gdName, dDrop, dCallX, dCall, daCons, daNil, pars, back, putBack, resW, dIfE, dNext, dRaise, dItemsT, dItemsL, dFor, dLift, W.tm, dTru, truth, isFz, dAug, gMul1, dScal, dScalT, T.frz, D.scal, dUn, gNeg, gTupD, gLstD, xNot, xBl, gIx, dSl, gSlT, pAt, pNo, dMv, gInt, dInR, eq_int, z, z', this]
  by_cases c : r = 1
  · subst c
    have ht2 := take_at (p := p) (k := 3) (by decide) (by decide)
    obtain ⟨d, hd, hat⟩ := pick3 (.tup [.str "yes"]) (.tup [.str "no"]) (.tup [.str "yes"]) (Int.emod_nonneg p (by decide)) (Int.emod_lt_of_pos p (show (0 : Int) < 3 by decide))
    have hh : d = Sy.d .yes ∨ d = Sy.d .no := by rcases hd with rfl | rfl | rfl <;> simp [Sy.d]
    have go : restS self kk [.ls [.fz (.int p)], .fz (.tup sh), .fz (.int N), .ls L, .fz (.int 1), .un] = some (.rt (.sh d) [.ls [.fz (.int (p / 3))], .fz (.tup sh), .fz (.int N), .ls L, .fz (.int 1), .un]) := by
      unfold restS
      refine seq_rt ?_
      unfold dIf
      rw [tt]
      simp [fnD, dRet, xLift, dBool, dAnd, dOr, dNot, dBl, dSh, dIsi, dVar, share, T.data, D.isi, D.bool, retW, outP, keepP, dSeq, dIf, xbLift, dC, dOp, dWith, fdCons, fdNil, D.items, Rs.w, dChain, gLe, gLt, gGt, gGe, gRI0, gRI, gAdd, gSubI, dAsg, mv, gdName, dDrop, dCallX, dCall, daCons, daNil, pars, back, putBack, resW, dIfE, dNext, dRaise, dItemsT, dItemsL, dFor, dLift, W.tm, dTru, truth, isFz, dAug, gMul1, dScal, dScalT, T.frz, D.scal, dUn, gNeg, gTupD, gLstD, xNot, xBl, gIx, dSl, gSlT, pAt, pNo, dMv, gInt, dInR, eq_int, ht2, dataL, hat]
    rcases hh with rfl | rfl
    · exact ⟨.yes, p / 3, rfl, rfl, rfl, rfl, go⟩
    · exact ⟨.no, p / 3, rfl, rfl, rfl, rfl, go⟩
  · have c' : (r == 1) = false := by simpa using c
    obtain ⟨d, hd, hat⟩ := pick3 (.str "put") (.str "is") (.str "put") (Int.emod_nonneg r (by decide)) (Int.emod_lt_of_pos r (show (0 : Int) < 3 by decide))
    have hh : d = .str "put" ∨ d = .str "is" := by rcases hd with rfl | rfl | rfl <;> simp
    have go : ∀ (w : Str) (i j p' : Int), atI ([.str "put", .str "is", .str "put"] : List D) (r % 3) = some (.str w) → fn__law_named [.ls [.fz (.int p)], .fz (.str w), .fz (.tup sh)] = some (.ret (.fz (.tup [.str w, .int i, .int j])), [.ls [.fz (.int p')], .fz (.str w), .fz (.tup sh)]) → restS self kk [.ls [.fz (.int p)], .fz (.tup sh), .fz (.int N), .ls L, .fz (.int r), .un] = some (.rt (.sh (.tup [.str w, .int i, .int j])) [.ls [.fz (.int p')], .fz (.tup sh), .fz (.int N), .ls L, .fz (.int r), .un]) := by
      intro w i j p' ha hc
      unfold restS
      refine seq_rt ?_
      unfold dIf
      rw [tt]
      simp [fnD, dRet, xLift, dBool, dAnd, dOr, dNot, dBl, dSh, dIsi, dVar, share, T.data, D.isi, D.bool, retW, outP, keepP, dSeq, dIf, xbLift, dC, dOp, dWith, fdCons, fdNil, D.items, Rs.w, dChain, gLe, gLt, gGt, gGe, gRI0, gRI, gAdd, gSubI, dAsg, mv, gdName, dDrop, dCallX, dCall, daCons, daNil, pars, back, putBack, resW, dIfE, dNext, dRaise, dItemsT, dItemsL, dFor, dLift, W.tm, dTru, truth, isFz, dAug, gMul1, dScal, dScalT, T.frz, D.scal, dUn, gNeg, gTupD, gLstD, xNot, xBl, gIx, dSl, gSlT, pAt, pNo, dMv, gInt, dInR, eq_int, c, c', dataL, gMod, ha, hc]
    rcases hh with rfl | rfl
    · obtain ⟨i, j, p', hv, hc⟩ := v__law_named (w := "put") hs p
      exact ⟨.put i j, p', hv, rfl, rfl, rfl, go _ i j p' hat hc⟩
    · obtain ⟨i, j, p', hv, hc⟩ := v__law_named (w := "is") hs p
      exact ⟨.is i j, p', hv, rfl, rfl, rfl, go _ i j p' hat hc⟩
theorem say_wrap {k : Nat} {sh : List D} {N p p' : Int} {m m' : Nat} {d : D} {a b : T} (e : b__law_saying (fn__law_saying k) k [.ls [.fz (.int p)], .fz (.tup sh), .fz (.int N), .ls (ones m), .un, .un] = some (.rt (.sh d) [.ls [.fz (.int p')], .fz (.tup sh), .fz (.int N), .ls (ones m'), a, b])) : fn__law_saying (k + 1) [.ls [.fz (.int p)], .fz (.tup sh), .fz (.int N), .ls (ones m)] = some (.ret (.fz d), [.ls [.fz (.int p')], .fz (.tup sh), .fz (.int N), .ls (ones m')]) := by
  have q := fn_rt (n := 4) (N := 6) (fx := [true, true, true, true]) (b := b__law_saying (fn__law_saying k) k) (ps := ([T.ls [T.fz (.int p)], T.fz (.tup sh), T.fz (.int N), T.ls (ones m)] : List T)) (d := d) (r := ([T.ls [T.fz (.int p')], T.fz (.tup sh), T.fz (.int N), T.ls (ones m'), a, b] : List T)) rfl e (by simp)
  exact q
theorem v__law_saying {sh : List D} (hs : GSh sh) : ∀ (n k : Nat) (p : Int) (m : Nat), n < k → ∃ (s : Sy) (p' : Int) (m' : Nat), okS sh s = true ∧ notes s + m' = m ∧ sz s + 1 ≤ 2 ^ (n + 1) ∧ hgt s ≤ n + 1 ∧ fn__law_saying k [.ls [.fz (.int p)], .fz (.tup sh), .fz (.int n), .ls (ones m)] = some (.ret (.fz s.d), [.ls [.fz (.int p')], .fz (.tup sh), .fz (.int n), .ls (ones m')]) := by
  have first : ∀ (n : Int) (p : Int) (m : Nat) (k : Nat) (r : Int), p % 16 = r → dAsg (xLift (dCall fn__law_take (daCons (dVar 0) (daCons (dC (.int 16)) daNil)))) (gdName 4) [.ls [.fz (.int p)], .fz (.tup sh), .fz (.int n), .ls (ones m), .un, .un] = some (.nx [.ls [.fz (.int (p / 16))], .fz (.tup sh), .fz (.int n), .ls (ones m), .fz (.int r), .un]) := by
    intro n p m k r hr
    have ht := take_at (p := p) (k := 16) (by decide) (by decide)
    rw [hr] at ht
    generalize ones m = L
    simp [fnD, dRet, xLift, dBool, dAnd, dOr, dNot, dBl, dSh, dIsi, dVar, share, T.data, D.isi, D.bool, retW, outP, keepP, dSeq, dIf, xbLift, dC, dOp, dWith, fdCons, fdNil, D.items, Rs.w, dChain, gLe, gLt, gGt, gGe, gRI0, gRI, gAdd, gSubI, dAsg, mv, gdName, dDrop, dCallX, dCall, daCons, daNil, pars, back, putBack, resW, dIfE, dNext, dRaise, dItemsT, dItemsL, dFor, dLift, W.tm, dTru, truth, isFz, dAug, gMul1, dScal, dScalT, T.frz, D.scal, dUn, gNeg, gTupD, gLstD, xNot, xBl, gIx, dSl, gSlT, pAt, pNo, dMv, gInt, dInR, ht]
  have note : ∀ (n p : Int) (m k : Nat), p % 16 = 0 → b__law_saying (fn__law_saying k) k [.ls [.fz (.int p)], .fz (.tup sh), .fz (.int n), .ls (ones (m + 1)), .un, .un] = some (.rt (.sh (.tup [.str "note"])) [.ls [.fz (.int (p / 16))], .fz (.tup sh), .fz (.int n), .ls (ones m), .fz (.int 0), .un]) := by
    intro n p m k hr
    unfold b__law_saying
    rw [seq_nx (first n p (m + 1) k 0 hr)]
    refine seq_rt ?_
    have nt := notes_test (sh := sh) (N := n) (r := 0) (p := p / 16) (m := m + 1)
    rw [decide_eq_true ⟨rfl, by omega⟩] at nt
    unfold dIf
    rw [nt]
    rw [ones_succ]
    generalize ones m = L
    simp [fnD, dRet, xLift, dBool, dAnd, dOr, dNot, dBl, dSh, dIsi, dVar, share, T.data, D.isi, D.bool, retW, outP, keepP, dSeq, dIf, xbLift, dC, dOp, dWith, fdCons, fdNil, D.items, Rs.w, dChain, gLe, gLt, gGt, gGe, gRI0, gRI, gAdd, gSubI, dAsg, mv, gdName, dDrop, dCallX, dCall, daCons, daNil, pars, back, putBack, resW, dIfE, dNext, dRaise, dItemsT, dItemsL, dFor, dLift, W.tm, dTru, truth, isFz, dAug, gMul1, dScal, dScalT, T.frz, D.scal, dUn, gNeg, gTupD, gLstD, xNot, xBl, gIx, dSl, gSlT, pAt, pNo, dMv, gInt, dInR, dPop]
  have other : ∀ (n p r : Int) (m k : Nat), p % 16 = r → ¬ (r = 0 ∧ 0 < m) → b__law_saying (fn__law_saying k) k [.ls [.fz (.int p)], .fz (.tup sh), .fz (.int n), .ls (ones m), .un, .un] = restS (fn__law_saying k) k [.ls [.fz (.int (p / 16))], .fz (.tup sh), .fz (.int n), .ls (ones m), .fz (.int r), .un] := by
    intro n p r m k hr hno
    unfold b__law_saying
    rw [seq_nx (first n p m k r hr)]
    have nt := notes_test (sh := sh) (N := n) (r := r) (p := p / 16) (m := m)
    rw [decide_eq_false hno] at nt
    rw [seq_nx (r1 := [.ls [.fz (.int (p / 16))], .fz (.tup sh), .fz (.int n), .ls (ones m), .fz (.int r), .un]) (by unfold dIf; rw [nt]; rfl)]
    rfl
  intro n
  induction n with
  | zero =>
    intro k p m hk
    obtain ⟨k, rfl⟩ : ∃ j, k = j + 1 := ⟨k - 1, by omega⟩
    have r0 := Int.emod_nonneg p (show (16 : Int) ≠ 0 by decide)
    by_cases c : p % 16 = 0 ∧ 0 < m
    · obtain ⟨m, rfl⟩ : ∃ j, m = j + 1 := ⟨m - 1, by omega⟩
      exact ⟨.note, p / 16, m, rfl, by simp [notes]; omega, by simp [sz], by simp [hgt], say_wrap (note _ p m k c.1)⟩
    · obtain ⟨s, p', h1, h2, h3, h4, h5⟩ := flatS (self := fn__law_saying k) (kk := k) (p := p / 16) (m := m) (N := ((0 : Nat) : Int)) hs r0 (Or.inl rfl)
      exact ⟨s, p', m, h1, by omega, by omega, by omega, say_wrap ((other _ p _ m k rfl c).trans h5)⟩
  | succ n ih =>
    intro k p m hk
    obtain ⟨k, rfl⟩ : ∃ j, k = j + 1 := ⟨k - 1, by omega⟩
    have r0 := Int.emod_nonneg p (show (16 : Int) ≠ 0 by decide)
    have p2 : 2 ^ (n + 1 + 1) = 2 * 2 ^ (n + 1) := by rw [Nat.pow_succ]; omega
    have p1 : 2 ≤ 2 ^ (n + 1) := by rw [Nat.pow_succ]; have := Nat.one_le_pow n 2 (by decide); omega
    have cast : ((n + 1 : Nat) : Int) = (n : Int) + 1 := by omega
    rw [cast, p2]
    by_cases c : p % 16 = 0 ∧ 0 < m
    · obtain ⟨m, rfl⟩ : ∃ j, m = j + 1 := ⟨m - 1, by omega⟩
      exact ⟨.note, p / 16, m, rfl, by simp [notes]; omega, by simp only [sz]; omega, by simp [hgt], say_wrap (note _ p m k c.1)⟩
    · have ot := other ((n : Int) + 1) p _ m k rfl c
      generalize hr : p % 16 = r at *
      by_cases c5 : r < 5
      · obtain ⟨s, p', h1, h2, h3, h4, h5⟩ := flatS (self := fn__law_saying k) (kk := k) (p := p / 16) (m := m) (N := (n : Int) + 1) hs r0 (Or.inr c5)
        exact ⟨s, p', m, h1, by omega, by omega, by omega, say_wrap (ot.trans h5)⟩
      · have nz : ((n : Int) + 1 == 0) = false := by simp; omega
        have nz' : ¬ ((n : Int) + 1 = 0) := by omega
        have n1 : ((n : Int) + 1 - 1) = n := by omega
        by_cases c7 : r < 7
        · obtain ⟨q, hq, hq2, hqn⟩ : ∃ q : Nat, (if (2 : Int) < (n : Int) then 2 else (n : Int)) = (q : Int) ∧ q ≤ n ∧ q ≤ 2 := by
            by_cases z : (2 : Int) < (n : Int)
            · rw [if_pos z]; exact ⟨2, rfl, by omega, by omega⟩
            · rw [if_neg z]; exact ⟨n, rfl, by omega, by omega⟩
          obtain ⟨a, p', oa, za, ga, ha⟩ := v__law_test hs q k (p / 16) (by omega)
          have pq : 2 ^ (q + 1) ≤ 2 ^ (n + 1) := Nat.pow_le_pow_right (by decide) (by omega)
          refine ⟨.nt a, p', m, oa, by simp [notes], by simp only [sz]; omega, by simp only [hgt]; omega, say_wrap (a := .fz (.int r)) (b := .un) (ot.trans ?_)⟩
          simp only [Sy.d]
          generalize a.d = da at ha ⊢
          generalize ones m = L
          simp [restS, fnD, dRet, xLift, dBool, dAnd, dOr, dNot, dBl, dSh, dIsi, dVar, share, T.data, D.isi, D.bool, retW, outP, keepP, dSeq, dIf, xbLift, dC, dOp, dWith, fdCons, fdNil, D.items, Rs.w, dChain, gLe, gLt, gGt, gGe, gRI0, gRI, gAdd, gSubI, dAsg, mv, gdName, dDrop, dCallX, dCall, daCons, daNil, pars, back, putBack, resW, dIfE, dNext, dRaise, dItemsT, dItemsL, dFor, dLift, W.tm, dTru, truth, isFz, dAug, gMul1, dScal, dScalT, T.frz, D.scal, dUn, gNeg, gTupD, gLstD, xNot, xBl, gIx, dSl, gSlT, pAt, pNo, dMv, gInt, dInR, eq_int, nz, nz', c5, c7, n1, gMin2, hq, ha]
        · by_cases c9 : r < 9
          · obtain ⟨a, p', m', oa, na, za, ga, ha⟩ := ih k (p / 16) m (by omega)
            refine ⟨.aga a, p', m', oa, by simp only [notes]; omega, by simp only [sz]; omega, by simp only [hgt]; omega, say_wrap (a := .fz (.int r)) (b := .un) (ot.trans ?_)⟩
            simp only [Sy.d]
            generalize a.d = da at ha ⊢
            generalize ones m = L at ha ⊢
            generalize ones m' = L' at ha ⊢
            simp [restS, fnD, dRet, xLift, dBool, dAnd, dOr, dNot, dBl, dSh, dIsi, dVar, share, T.data, D.isi, D.bool, retW, outP, keepP, dSeq, dIf, xbLift, dC, dOp, dWith, fdCons, fdNil, D.items, Rs.w, dChain, gLe, gLt, gGt, gGe, gRI0, gRI, gAdd, gSubI, dAsg, mv, gdName, dDrop, dCallX, dCall, daCons, daNil, pars, back, putBack, resW, dIfE, dNext, dRaise, dItemsT, dItemsL, dFor, dLift, W.tm, dTru, truth, isFz, dAug, gMul1, dScal, dScalT, T.frz, D.scal, dUn, gNeg, gTupD, gLstD, xNot, xBl, gIx, dSl, gSlT, pAt, pNo, dMv, gInt, dInR, eq_int, nz, nz', c5, c7, c9, n1, ha]
          · obtain ⟨a, p', m', oa, na, za, ga, ha⟩ := ih k (p / 16) m (by omega)
            obtain ⟨b, p'', m'', ob, nb, zb, gb, hb⟩ := ih k p' m' (by omega)
            obtain ⟨x, hx, hat⟩ := pick2 (.str "then") (.str "either") (Int.emod_nonneg r (by decide)) (Int.emod_lt_of_pos r (show (0 : Int) < 2 by decide))
            rcases hx with rfl | rfl
            · refine ⟨.thn a b, p'', m'', by simp [okS, oa, ob], by simp only [notes]; omega, by simp only [sz]; omega, by simp only [hgt]; omega, say_wrap (a := .fz (.int r)) (b := .fz a.d) (ot.trans ?_)⟩
              simp only [Sy.d]
              generalize a.d = da at ha ⊢
              generalize b.d = db at hb ⊢
              generalize ones m = L at ha ⊢
              generalize ones m' = L' at ha hb ⊢
              generalize ones m'' = L'' at hb ⊢
              simp [restS, fnD, dRet, xLift, dBool, dAnd, dOr, dNot, dBl, dSh, dIsi, dVar, share, T.data, D.isi, D.bool, retW, outP, keepP, dSeq, dIf, xbLift, dC, dOp, dWith, fdCons, fdNil, D.items, Rs.w, dChain, gLe, gLt, gGt, gGe, gRI0, gRI, gAdd, gSubI, dAsg, mv, gdName, dDrop, dCallX, dCall, daCons, daNil, pars, back, putBack, resW, dIfE, dNext, dRaise, dItemsT, dItemsL, dFor, dLift, W.tm, dTru, truth, isFz, dAug, gMul1, dScal, dScalT, T.frz, D.scal, dUn, gNeg, gTupD, gLstD, xNot, xBl, gIx, dSl, gSlT, pAt, pNo, dMv, gInt, dInR, eq_int, nz, nz', c5, c7, c9, n1, ha, hb, dataL, gMod, hat]
            · refine ⟨.eit a b, p'', m'', by simp [okS, oa, ob], by simp only [notes]; omega, by simp only [sz]; omega, by simp only [hgt]; omega, say_wrap (a := .fz (.int r)) (b := .fz a.d) (ot.trans ?_)⟩
              simp only [Sy.d]
              generalize a.d = da at ha ⊢
              generalize b.d = db at hb ⊢
              generalize ones m = L at ha ⊢
              generalize ones m' = L' at ha hb ⊢
              generalize ones m'' = L'' at hb ⊢
              simp [restS, fnD, dRet, xLift, dBool, dAnd, dOr, dNot, dBl, dSh, dIsi, dVar, share, T.data, D.isi, D.bool, retW, outP, keepP, dSeq, dIf, xbLift, dC, dOp, dWith, fdCons, fdNil, D.items, Rs.w, dChain, gLe, gLt, gGt, gGe, gRI0, gRI, gAdd, gSubI, dAsg, mv, gdName, dDrop, dCallX, dCall, daCons, daNil, pars, back, putBack, resW, dIfE, dNext, dRaise, dItemsT, dItemsL, dFor, dLift, W.tm, dTru, truth, isFz, dAug, gMul1, dScal, dScalT, T.frz, D.scal, dUn, gNeg, gTupD, gLstD, xNot, xBl, gIx, dSl, gSlT, pAt, pNo, dMv, gInt, dInR, eq_int, nz, nz', c5, c7, c9, n1, ha, hb, dataL, gMod, hat]
end K5

set_option Elab.async false
set_option linter.all false
set_option maxRecDepth 100000
set_option maxHeartbeats 8000000
namespace K5
open PySem PySem.Spec PyProof.Rows L2 Q
structure Fcts (K : PySem.W.Frag) (Z : Zs) : Prop where
  ok : True
theorem pick4 {i : Int} (h0 : 0 ≤ i) (h1 : i < 4) : ∃ m : Nat, m ≤ 5 ∧ atI ([.int 0, .int 1, .int 2, .int 5] : List D) i = some (.int (m : Int)) := by
  have : i = 0 ∨ i = 1 ∨ i = 2 ∨ i = 3 := by omega
  rcases this with rfl | rfl | rfl | rfl
  · exact ⟨0, by omega, rfl⟩
  · exact ⟨1, by omega, rfl⟩
  · exact ⟨2, by omega, rfl⟩
  · exact ⟨5, by omega, rfl⟩
/-- a shape and a saying of it -/
structure Pr (d : D) : Prop where
  ex : ∃ (sh : List D) (s : Sy), d = .tup [.tup sh, s.d] ∧ GSh sh ∧ okS sh s = true ∧ notes s ≤ 5 ∧ sz s ≤ 31 ∧ hgt s ≤ 5
theorem v__law_drawn {ns : List Int} {k : Int} (k0 : 0 ≤ k) (k4 : k < 4) : ∃ d : D, Pr d ∧ fn__law_drawn [.fz (.scr ns), .fz (.int k), .fz (.int 4)] = some (.ret (.fz d), [.fz (.scr ns), .fz (.int k), .fz (.int 4)]) := by
  obtain ⟨c, hc⟩ := v__law_cell (ns := ns) (k := k) k0 (by omega)
  obtain ⟨sh, p1, hs, hsh⟩ := v__law_shape c
  have ht := take_at (p := p1) (k := 4) (by decide) (by decide)
  obtain ⟨m, m5, hat⟩ := pick4 (Int.emod_nonneg p1 (by decide)) (Int.emod_lt_of_pos p1 (show (0 : Int) < 4 by decide))
  obtain ⟨s, p2, m', h1, h2, h3, h4, h5⟩ := v__law_saying hs 4 FU (p1 / 4) m (by unfold FU; omega)
  have hsay : fn__law_saying FU [.ls [.fz (.int (p1 / 4))], .fz (.tup sh), .fz (.int 4), .ls (ones m)] = some (.ret (.fz s.d), [.ls [.fz (.int p2)], .fz (.tup sh), .fz (.int 4), .ls (ones m')]) := h5
  refine ⟨.tup [.tup sh, s.d], ⟨sh, s, rfl, hs, h1, by omega, by have : sz s + 1 ≤ 32 := h3; omega, by omega⟩, ?_⟩
  have mm : (m : Int) ≤ 1000 := by omega
  have hrep : gMulL [.lst [.int 1], .int (m : Int)] = some (.newL (List.replicate m (.int 1))) := by
    have fl : ∀ n : Nat, (List.replicate n [D.int 1]).flatten = List.replicate n (D.int 1) := by
      intro n
      induction n with
      | zero => rfl
      | succ n ih => rw [List.replicate_succ, List.flatten_cons, ih]; rfl
    show (if (m : Int) ≤ 1000 ∧ [D.int 1].length ≤ 1000 ∧ 0 ≤ (m : Int) then some (Rs.newL (List.replicate (m : Int).toNat [D.int 1]).flatten) else none) = _
    rw [if_pos ⟨mm, by simp, by omega⟩, Int.toNat_natCast, fl]
  have key : b__law_drawn [.fz (.scr ns), .fz (.int k), .fz (.int 4), .un, .un, .un] = some (.rt (.sh (.tup [.tup sh, s.d])) [.fz (.scr ns), .fz (.int k), .fz (.int 4), .ls [.fz (.int p2)], .fz (.tup sh), .ls (ones m')]) := by
    generalize s.d = sd at hsay ⊢
    unfold b__law_drawn
    rw [seq_nx (r1 := [.fz (.scr ns), .fz (.int k), .fz (.int 4), .ls [.fz (.int c)], .un, .un]) (by simp [fnD, dRet, xLift, dBool, dAnd, dOr, dNot, dBl, dSh, dIsi, dVar, share, T.data, D.isi, D.bool, retW, outP, keepP, dSeq, dIf, xbLift, dC, dOp, dWith, fdCons, fdNil, D.items, Rs.w, dChain, gLe, gLt, gGt, gGe, gRI0, gRI, gAdd, gSubI, dAsg, mv, gdName, dDrop, dCallX, dCall, daCons, daNil, pars, back, putBack, resW, dIfE, dNext, dRaise, dItemsT, dItemsL, dFor, dLift, W.tm, dTru, truth, isFz, dAug, gMul1, dScal, dScalT, T.frz, D.scal, dUn, gNeg, gTupD, gLstD, xNot, xBl, gIx, dSl, gSlT, pAt, pNo, dMv, gInt, dInR, hc])]
    rw [seq_nx (r1 := [.fz (.scr ns), .fz (.int k), .fz (.int 4), .ls [.fz (.int p1)], .fz (.tup sh), .un]) (by simp [fnD, dRet, xLift, dBool, dAnd, dOr, dNot, dBl, dSh, dIsi, dVar, share, T.data, D.isi, D.bool, retW, outP, keepP, dSeq, dIf, xbLift, dC, dOp, dWith, fdCons, fdNil, D.items, Rs.w, dChain, gLe, gLt, gGt, gGe, gRI0, gRI, gAdd, gSubI, dAsg, mv, gdName, dDrop, dCallX, dCall, daCons, daNil, pars, back, putBack, resW, dIfE, dNext, dRaise, dItemsT, dItemsL, dFor, dLift, W.tm, dTru, truth, isFz, dAug, gMul1, dScal, dScalT, T.frz, D.scal, dUn, gNeg, gTupD, gLstD, xNot, xBl, gIx, dSl, gSlT, pAt, pNo, dMv, gInt, dInR, hsh])]
    have q1 : dSh (dOp gIx (dSh (dWith (fdCons (dSh (dC (.int 0))) (fdCons (dSh (dC (.int 1))) (fdCons (dSh (dC (.int 2))) (fdCons (dSh (dC (.int 5))) fdNil)))) gLstD)) (dSh (dCall fn__law_take (daCons (dVar 3) (daCons (dC (.int 4)) daNil))))) [.fz (.scr ns), .fz (.int k), .fz (.int 4), .ls [.fz (.int p1)], .fz (.tup sh), .un] = some (.int (m : Int), [.fz (.scr ns), .fz (.int k), .fz (.int 4), .ls [.fz (.int (p1 / 4))], .fz (.tup sh), .un]) := by
      simp [fnD, dRet, xLift, dBool, dAnd, dOr, dNot, dBl, dSh, dIsi, dVar, share, T.data, D.isi, D.bool, retW, outP, keepP, dSeq, dIf, xbLift, dC, dOp, dWith, fdCons, fdNil, D.items, Rs.w, dChain, gLe, gLt, gGt, gGe, gRI0, gRI, gAdd, gSubI, dAsg, mv, gdName, dDrop, dCallX, dCall, daCons, daNil, pars, back, putBack, resW, dIfE, dNext, dRaise, dItemsT, dItemsL, dFor, dLift, W.tm, dTru, truth, isFz, dAug, gMul1, dScal, dScalT, T.frz, D.scal, dUn, gNeg, gTupD, gLstD, xNot, xBl, gIx, dSl, gSlT, pAt, pNo, dMv, gInt, dInR, dataL, ht, hat]
    have s3 := asg_nw (i := 5) (op_eval (g := gMulL) (z := .newL (List.replicate m (.int 1))) (fa := dSh (dWith (fdCons (dSh (dC (.int 1))) fdNil) gLstD)) (r := [.fz (.scr ns), .fz (.int k), .fz (.int 4), .ls [.fz (.int p1)], .fz (.tup sh), .un]) (r1 := [.fz (.scr ns), .fz (.int k), .fz (.int 4), .ls [.fz (.int p1)], .fz (.tup sh), .un]) (a := .lst [.int 1]) (by rfl) q1 hrep)
    rw [seq_nx s3]
    change dRet (xLift _) [.fz (.scr ns), .fz (.int k), .fz (.int 4), .ls [.fz (.int (p1 / 4))], .fz (.tup sh), .ls (ones m)] = _
    generalize ones m = L at hsay ⊢
    generalize ones m' = L' at hsay ⊢
    simp [fnD, dRet, xLift, dBool, dAnd, dOr, dNot, dBl, dSh, dIsi, dVar, share, T.data, D.isi, D.bool, retW, outP, keepP, dSeq, dIf, xbLift, dC, dOp, dWith, fdCons, fdNil, D.items, Rs.w, dChain, gLe, gLt, gGt, gGe, gRI0, gRI, gAdd, gSubI, dAsg, mv, gdName, dDrop, dCallX, dCall, daCons, daNil, pars, back, putBack, resW, dIfE, dNext, dRaise, dItemsT, dItemsL, dFor, dLift, W.tm, dTru, truth, isFz, dAug, gMul1, dScal, dScalT, T.frz, D.scal, dUn, gNeg, gTupD, gLstD, xNot, xBl, gIx, dSl, gSlT, pAt, pNo, dMv, gInt, dInR, hsay]
  have q := fn_rt (n := 3) (N := 6) (fx := [true, true, true]) (b := b__law_drawn) (ps := ([T.fz (.scr ns), T.fz (.int k), T.fz (.int 4)] : List T)) (d := .tup [.tup sh, s.d]) (r := ([T.fz (.scr ns), T.fz (.int k), T.fz (.int 4), T.ls [T.fz (.int p2)], T.fz (.tup sh), T.ls (ones m')] : List T)) rfl key (by simp)
  exact q
def drawB : SD := (dDrop (xLift (dAppend 1 (dMv (dCall fn__law_drawn (daCons (dVar 0) (daCons (dVar 2) (daCons (dC (.int 4)) daNil))))))))
theorem loop_draw {ns : List Int} {a3 a4 a5 a6 : T} : ∀ (ks : List D) (L : List D) (a2 : T), (∀ d ∈ ks, ∃ k : Int, d = .int k ∧ 0 ≤ k ∧ k < 4) → L.length + ks.length ≤ 1000 → (∀ d ∈ L, Pr d) → ∃ (L' : List D) (b2 : T), (∀ d ∈ L', Pr d) ∧ L'.length = L.length + ks.length ∧ (∃ t, L' = L ++ t) ∧
    loopD (gdName 2) drawB ks [.fz (.scr ns), .ls (L.map .fz), a2, a3, a4, a5, a6] = some (.nx [.fz (.scr ns), .ls (L'.map .fz), b2, a3, a4, a5, a6])
  | [], L, a2, _, _, hL => ⟨L, a2, hL, by simp, ⟨[], by simp⟩, rfl⟩
  | d :: ks, L, a2, hk, hb, hL => by
    obtain ⟨k, rfl, k0, k4⟩ := hk d (by simp)
    obtain ⟨e, he, hc⟩ := v__law_drawn (ns := ns) k0 k4
    obtain ⟨L', b2, h1, h2, ⟨t, h4⟩, h3⟩ := loop_draw (ns := ns) (a3 := a3) (a4 := a4) (a5 := a5) (a6 := a6) ks (L ++ [e]) (.fz (.int k)) (fun d hd => hk d (by simp [hd])) (by simp at hb ⊢; omega) (fun d hd => by
      rcases List.mem_append.mp hd with q | q
      · exact hL d q
      · simp at q; subst q; exact he)
    refine ⟨L', b2, h1, by simp at h2 ⊢; omega, ⟨e :: t, by rw [h4]; simp⟩, ?_⟩
    have c : L.length < 1000000 := by simp at hb; omega
    have st : drawB [.fz (.scr ns), .ls (L.map .fz), .fz (.int k), a3, a4, a5, a6] = some (.nx [.fz (.scr ns), .ls ((L ++ [e]).map .fz), .fz (.int k), a3, a4, a5, a6]) := by
      simp [drawB, fnD, dRet, xLift, dBool, dAnd, dOr, dNot, dBl, dSh, dIsi, dVar, share, T.data, D.isi, D.bool, retW, outP, keepP, dSeq, dIf, xbLift, dC, dOp, dWith, fdCons, fdNil, D.items, Rs.w, dChain, gLe, gLt, gGt, gGe, gRI0, gRI, gAdd, gSubI, dAsg, mv, gdName, dDrop, dCallX, dCall, daCons, daNil, pars, back, putBack, resW, dIfE, dNext, dRaise, dItemsT, dItemsL, dFor, dLift, W.tm, dTru, truth, isFz, dAug, gMul1, dScal, dScalT, T.frz, D.scal, dUn, gNeg, gTupD, gLstD, xNot, xBl, gIx, dSl, gSlT, pAt, pNo, dMv, gInt, dInR, dAppend, isLs, hc, c]
    simp only [loopD, gdName, List.set_cons_succ, List.set_cons_zero, Option.bind_some, st]
    exact h3
def lookB (Z : Zs) : SD := (dSeq (dAsg (xLift (dWith (fdCons (dSh (dVar 4)) fdNil) gRep)) (gdName 5))
    (dSeq (dAsg (dCallX (fn_turned_saying Z) (daCons (dVar 3) (daCons (dVar 4) daNil))) (gdName 6))
    (dSeq (dIf (xbLift (dOr (dBl (dSh (dOp gNe (dSh (dWith (fdCons (dSh (dVar 6)) fdNil) gRep)) (dSh (dWith (fdCons (dSh (dCall (fn__law_due FU) (daCons (dVar 3) (daCons (dVar 4) daNil)))) fdNil) gRep))))) (dBl (dSh (dOp gNe (dSh (dWith (fdCons (dSh (dVar 4)) fdNil) gRep)) (dSh (dVar 5))))))) (dRet (xLift (dC (.bl false)))) dNext)
    (dIf (xbLift (dBl (dSh (dOp gNe (dSh (dWith (fdCons (dSh (dCall (fn_turned_saying Z) (daCons (dVar 3) (daCons (dVar 6) daNil)))) fdNil) gRep)) (dSh (dWith (fdCons (dSh (dCall (fn__law_due FU) (daCons (dVar 3) (daCons (dVar 6) daNil)))) fdNil) gRep)))))) (dRet (xLift (dC (.bl false)))) dNext))))
theorem look_ev {Z : Zs} {a0 a1 a2 a5 a6 : T} {sh : List D} {s : Sy} (hs : GSh sh) (h : okS sh s = true) (hn : notes s ≤ 5) (hz : sz s ≤ 31) (hh : hgt s ≤ 5) : ∃ b5 b6, lookB Z [a0, a1, a2, .fz (.tup sh), .fz s.d, a5, a6] = some (.nx [a0, a1, a2, .fz (.tup sh), .fz s.d, b5, b6]) := by
  obtain ⟨o1, n1, z1, g1⟩ := due_ok hs s h
  obtain ⟨o2, n2, z2, g2⟩ := due_ok hs (due sh s) o1
  have t1 := v_turned_saying (Z := Z) hs h hn (by omega)
  have t2 := v_turned_saying (Z := Z) hs o1 (by omega) (by omega)
  have u1 := v__law_due hs FU s (by unfold FU; omega) h
  have u2 := v__law_due hs FU (due sh s) (by unfold FU; omega) o1
  have reps : ∀ x : Sy, okS sh x = true → sz x ≤ 2600 → hgt x ≤ 100 → ∃ t, gRep [x.d] = some (.val (.str t)) ∧ PyData.strOk t = true := fun x ox zx gx =>
    rep_ok (fin_S hs x ox) (Nat.le_trans (dep_d x) gx) (Nat.le_trans (wt_d x) (by omega))
  obtain ⟨x0, r0, k0⟩ := reps s h (by omega) (by omega)
  obtain ⟨x1, r1, k1⟩ := reps (due sh s) o1 (by omega) (by omega)
  obtain ⟨x2, r2, k2⟩ := reps (due sh (due sh s)) o2 (by omega) (by omega)
  generalize s.d = sd at *
  generalize (due sh (due sh s)).d = d2 at *
  generalize (due sh s).d = d1 at *
  refine ⟨.fz (.str x0), .fz d1, ?_⟩
  unfold lookB
  rw [seq_nx (r1 := [a0, a1, a2, .fz (.tup sh), .fz sd, .fz (.str x0), a6]) (by simp [fnD, dRet, xLift, dBool, dAnd, dOr, dNot, dBl, dSh, dIsi, dVar, share, T.data, D.isi, D.bool, retW, outP, keepP, dSeq, dIf, xbLift, dC, dOp, dWith, fdCons, fdNil, D.items, Rs.w, dChain, gLe, gLt, gGt, gGe, gRI0, gRI, gAdd, gSubI, dAsg, mv, gdName, dDrop, dCallX, dCall, daCons, daNil, pars, back, putBack, resW, dIfE, dNext, dRaise, dItemsT, dItemsL, dFor, dLift, W.tm, dTru, truth, isFz, dAug, gMul1, dScal, dScalT, T.frz, D.scal, dUn, gNeg, gTupD, gLstD, xNot, xBl, gIx, dSl, gSlT, pAt, pNo, dMv, gInt, dInR, r0])]
  rw [seq_nx (r1 := [a0, a1, a2, .fz (.tup sh), .fz sd, .fz (.str x0), .fz d1]) (by simp [fnD, dRet, xLift, dBool, dAnd, dOr, dNot, dBl, dSh, dIsi, dVar, share, T.data, D.isi, D.bool, retW, outP, keepP, dSeq, dIf, xbLift, dC, dOp, dWith, fdCons, fdNil, D.items, Rs.w, dChain, gLe, gLt, gGt, gGe, gRI0, gRI, gAdd, gSubI, dAsg, mv, gdName, dDrop, dCallX, dCall, daCons, daNil, pars, back, putBack, resW, dIfE, dNext, dRaise, dItemsT, dItemsL, dFor, dLift, W.tm, dTru, truth, isFz, dAug, gMul1, dScal, dScalT, T.frz, D.scal, dUn, gNeg, gTupD, gLstD, xNot, xBl, gIx, dSl, gSlT, pAt, pNo, dMv, gInt, dInR, t1])]
  rw [seq_nx (r1 := [a0, a1, a2, .fz (.tup sh), .fz sd, .fz (.str x0), .fz d1]) (by simp [fnD, dRet, xLift, dBool, dAnd, dOr, dNot, dBl, dSh, dIsi, dVar, share, T.data, D.isi, D.bool, retW, outP, keepP, dSeq, dIf, xbLift, dC, dOp, dWith, fdCons, fdNil, D.items, Rs.w, dChain, gLe, gLt, gGt, gGe, gRI0, gRI, gAdd, gSubI, dAsg, mv, gdName, dDrop, dCallX, dCall, daCons, daNil, pars, back, putBack, resW, dIfE, dNext, dRaise, dItemsT, dItemsL, dFor, dLift, W.tm, dTru, truth, isFz, dAug, gMul1, dScal, dScalT, T.frz, D.scal, dUn, gNeg, gTupD, gLstD, xNot, xBl, gIx, dSl, gSlT, pAt, pNo, dMv, gInt, dInR, r1, u1, r0, ne_str k1, ne_str k0])]
  simp [fnD, dRet, xLift, dBool, dAnd, dOr, dNot, dBl, dSh, dIsi, dVar, share, T.data, D.isi, D.bool, retW, outP, keepP, dSeq, dIf, xbLift, dC, dOp, dWith, fdCons, fdNil, D.items, Rs.w, dChain, gLe, gLt, gGt, gGe, gRI0, gRI, gAdd, gSubI, dAsg, mv, gdName, dDrop, dCallX, dCall, daCons, daNil, pars, back, putBack, resW, dIfE, dNext, dRaise, dItemsT, dItemsL, dFor, dLift, W.tm, dTru, truth, isFz, dAug, gMul1, dScal, dScalT, T.frz, D.scal, dUn, gNeg, gTupD, gLstD, xNot, xBl, gIx, dSl, gSlT, pAt, pNo, dMv, gInt, dInR, t2, u2, r2, ne_str k2]
theorem true_law : ∀ (K : PySem.W.Frag) (Z : Zs), Fcts K Z → ∀ ns : List Int, ns.length ≤ 63 → ∃ ps', (fn_law Z) [.fz (.scr ns)] = some (.ret (.fz (.bl true)), ps') ∧ ps'.length = 1 := by
  intro K Z _ ns _
  have b0 : ∀ d ∈ ([.tup [.tup [.int 2, .int 2], Sy.d .note], .tup [.tup [.int 3], Sy.d (.put 0 1)], .tup [.tup [.int 1], Sy.d (.put 0 0)]] : List D), Pr d := by
    intro d hd
    simp only [List.mem_cons, List.not_mem_nil, or_false] at hd
    rcases hd with rfl | rfl | rfl
    · exact ⟨[.int 2, .int 2], .note, rfl, gsh_of (l := [2, 2]) (by decide), rfl, by simp [notes], by simp [sz], by simp [hgt]⟩
    · exact ⟨[.int 3], .put 0 1, rfl, gsh_of (l := [3]) (by decide), rfl, by simp [notes], by simp [sz], by simp [hgt]⟩
    · exact ⟨[.int 1], .put 0 0, rfl, gsh_of (l := [1]) (by decide), rfl, by simp [notes], by simp [sz], by simp [hgt]⟩
  obtain ⟨L, b2, hL, hlen, ⟨t, ht⟩, e1⟩ := loop_draw (ns := ns) (a3 := .un) (a4 := .un) (a5 := .un) (a6 := .un) (upto 0 4) [.tup [.tup [.int 2, .int 2], Sy.d .note], .tup [.tup [.int 3], Sy.d (.put 0 1)], .tup [.tup [.int 1], Sy.d (.put 0 0)]] .un (fun d hd => by
    unfold upto at hd
    obtain ⟨i, hi, rfl⟩ := List.mem_map.mp hd
    rw [List.mem_range] at hi
    exact ⟨_, rfl, by omega, by omega⟩) (by rw [upto_len]; simp) b0
  have hlen7 : L.length = 7 := by rw [hlen, upto_len]; rfl
  have hall : ∀ d ∈ L ++ L.take 1, Pr d := fun d hd => by
    rcases List.mem_append.mp hd with q | q
    · exact hL d q
    · exact hL d (List.mem_of_mem_take q)
  obtain ⟨r2, e2, b1, b2', b3, b4, b5, b6, rfl⟩ := loop_all (h := gdTup 2 (gdCons (gdName 3) (gdCons (gdName 4) gdNil))) (body := lookB Z) (st := fun (_ : Unit) r => ∃ b1 b2 b3 b4 b5 b6, r = [.fz (.scr ns), b1, b2, b3, b4, b5, b6]) (f := fun _ _ => ()) (a0 := ()) (l := L ++ L.take 1) (r := [.fz (.scr ns), .fz (.lst L), b2, .un, .un, .un, .un]) (fun pre d post el r hr => by
      obtain ⟨b1, b2, b3, b4, b5, b6, rfl⟩ := hr
      have hd : d ∈ L ++ L.take 1 := by rw [el]; simp
      obtain ⟨sh, s, rfl, hs, h1, h2, h3, h4⟩ := (hall d hd).ex
      obtain ⟨c5, c6, e⟩ := look_ev (Z := Z) (a0 := .fz (.scr ns)) (a1 := b1) (a2 := b2) (a5 := b5) (a6 := b6) hs h1 h2 h3 h4
      refine ⟨[.fz (.scr ns), b1, b2, .fz (.tup sh), .fz s.d, b5, b6], _, ?_, e, _, _, _, _, _, _, rfl⟩
      simp [gdTup, T.tupParts, gdCons, gdName, gdNil]) ⟨_, _, _, _, _, _, rfl⟩
  have key : b_law Z [.fz (.scr ns), .un, .un, .un, .un, .un, .un] = some (.rt (.sh (.bl true)) [.fz (.scr ns), b1, b2', b3, b4, b5, b6]) := by
    unfold b_law
    rw [seq_nx (r1 := [.fz (.scr ns), .ls (([.tup [.tup [.int 2, .int 2], Sy.d .note], .tup [.tup [.int 3], Sy.d (.put 0 1)], .tup [.tup [.int 1], Sy.d (.put 0 0)]] : List D).map .fz), .un, .un, .un, .un, .un]) (by rfl)]
    change dSeq (dFor _ _ drawB) _ _ = _
    rw [seq_nx (for_nx (l := upto 0 4) (r1 := [.fz (.scr ns), .ls (([.tup [.tup [.int 2, .int 2], Sy.d .note], .tup [.tup [.int 3], Sy.d (.put 0 1)], .tup [.tup [.int 1], Sy.d (.put 0 0)]] : List D).map .fz), .un, .un, .un, .un, .un]) (rngT (i := 4) rfl (by decide) (by decide)) e1)]
    change dSeq (dFor _ _ (lookB Z)) _ _ = _
    have sv : dSh (dVar 1) [.fz (.scr ns), .ls (L.map .fz), b2, .un, .un, .un, .un] = some (.lst L, [.fz (.scr ns), .fz (.lst L), b2, .un, .un, .un, .un]) := by
      simp only [dSh, dVar, List.getElem?_cons_succ, List.getElem?_cons_zero, Option.bind_some, share, fzs_data]
      rfl
    have hcut : Q.cutD L none (some 1) = L.take 1 := by
      unfold Q.cutD
      rw [hlen7]
      rfl
    have q2 : dSh (dSl gSlL (dSh (dVar 1)) pNo (pAt (dSh (dC (.int 1))))) [.fz (.scr ns), .fz (.lst L), b2, .un, .un, .un, .un] = some (.lst (L.take 1), [.fz (.scr ns), .fz (.lst L), b2, .un, .un, .un, .un]) := by
      have hd := fzs_data (L.take 1)
      have q3 : dSl gSlL (dSh (dVar 1)) pNo (pAt (dSh (dC (.int 1)))) [.fz (.scr ns), .fz (.lst L), b2, .un, .un, .un, .un] = some (.nw (.ls ((L.take 1).map .fz)), [.fz (.scr ns), .fz (.lst L), b2, .un, .un, .un, .un]) := by
        have sv2 : dSh (dVar 1) [.fz (.scr ns), .fz (.lst L), b2, .un, .un, .un, .un] = some (.lst L, [.fz (.scr ns), .fz (.lst L), b2, .un, .un, .un, .un]) := rfl
        have pa : pAt (dSh (dC (.int 1))) [.fz (.scr ns), .fz (.lst L), b2, .un, .un, .un, .un] = some (some 1, [.fz (.scr ns), .fz (.lst L), b2, .un, .un, .un, .un]) := rfl
        unfold dSl
        rw [sv2]
        simp only [Option.bind_some, pNo, pa, gSlL, hcut]
        rfl
      exact sh_nw q3 hd
    have cat : gCatL [.lst L, .lst (L.take 1)] = some (.newL (L ++ L.take 1)) := cat_ok (by rw [List.length_take, hlen7]; simp)
    have o := sh_nw (op_eval (g := gCatL) sv q2 cat) (fzs_data (L ++ L.take 1))
    have hi : dItemsL (dSh (dOp gCatL (dSh (dVar 1)) (dSh (dSl gSlL (dSh (dVar 1)) pNo (pAt (dSh (dC (.int 1)))))))) [.fz (.scr ns), .ls (L.map .fz), b2, .un, .un, .un, .un] = some (L ++ L.take 1, [.fz (.scr ns), .fz (.lst L), b2, .un, .un, .un, .un]) := by
      unfold dItemsL
      rw [o]
      rfl
    rw [seq_nx (for_nx hi e2)]
    rfl
  have q := fn_rt (n := 1) (N := 7) (fx := [true]) (b := b_law Z) (ps := ([T.fz (.scr ns)] : List T)) (d := .bl true) (r := ([T.fz (.scr ns), b1, b2', b3, b4, b5, b6] : List T)) rfl key (by simp)
  exact ⟨_, q, rfl⟩
end K5

set_option Elab.async false
set_option linter.all false
set_option maxRecDepth 100000
set_option maxHeartbeats 4000000
namespace K5
open PySem PySem.Spec PyProof.Rows L2 Q
theorem all_mk {P : Program} {w : World} {K : PySem.W.Frag} {h : Heap} {mg : Str → Option Value} {fa : Addr} (true_law : ∀ (K : PySem.W.Frag) (Z : Zs), Fcts K Z → ∀ ns : List Int, ns.length ≤ 63 → ∃ ps', (fn_law Z) [.fz (.scr ns)] = some (.ret (.fz (.bl true)), ps') ∧ ps'.length = 1)
    (X : K.In h) (G : h.Ns mainGlobals mg) (hfa : mg "law" = some (.ref fa))
    {f_is_number : Addr} {od_is_number an_is_number : Option Addr} {sl_is_number : Array (Option Value)} {oc_is_number kV_is_number dc_is_number pm_is_number cd_is_number ct_is_number : Value} {f_is_below : Addr} {od_is_below an_is_below : Option Addr} {sl_is_below : Array (Option Value)} {oc_is_below kV_is_below dc_is_below pm_is_below cd_is_below ct_is_below : Value} {f_is_shape : Addr} {od_is_shape an_is_shape : Option Addr} {sl_is_shape : Array (Option Value)} {oc_is_shape kV_is_shape dc_is_shape pm_is_shape cd_is_shape ct_is_shape : Value} {f_check_shape : Addr} {od_check_shape an_check_shape : Option Addr} {sl_check_shape : Array (Option Value)} {oc_check_shape kV_check_shape dc_check_shape pm_check_shape cd_check_shape ct_check_shape : Value} {f_has_part_form : Addr} {od_has_part_form an_has_part_form : Option Addr} {sl_has_part_form : Array (Option Value)} {oc_has_part_form kV_has_part_form dc_has_part_form pm_has_part_form cd_has_part_form ct_has_part_form : Value} {f_inner_parts : Addr} {od_inner_parts an_inner_parts : Option Addr} {sl_inner_parts : Array (Option Value)} {oc_inner_parts kV_inner_parts dc_inner_parts pm_inner_parts cd_inner_parts ct_inner_parts : Value} {f_is_made_well : Addr} {od_is_made_well an_is_made_well : Option Addr} {sl_is_made_well : Array (Option Value)} {oc_is_made_well kV_is_made_well dc_is_made_well pm_is_made_well cd_is_made_well ct_is_made_well : Value} {f_is_saying : Addr} {od_is_saying an_is_saying : Option Addr} {sl_is_saying : Array (Option Value)} {oc_is_saying kV_is_saying dc_is_saying pm_is_saying cd_is_saying ct_is_saying : Value} {f_check_saying : Addr} {od_check_saying an_check_saying : Option Addr} {sl_check_saying : Array (Option Value)} {oc_check_saying kV_check_saying dc_check_saying pm_check_saying cd_check_saying ct_check_saying : Value} {f_turned_inner : Addr} {od_turned_inner an_turned_inner : Option Addr} {sl_turned_inner : Array (Option Value)} {oc_turned_inner kV_turned_inner dc_turned_inner pm_turned_inner cd_turned_inner ct_turned_inner : Value} {f_parts_by : Addr} {od_parts_by an_parts_by : Option Addr} {sl_parts_by : Array (Option Value)} {oc_parts_by kV_parts_by dc_parts_by pm_parts_by cd_parts_by ct_parts_by : Value} {f_in_turn : Addr} {od_in_turn an_in_turn : Option Addr} {sl_in_turn : Array (Option Value)} {oc_in_turn kV_in_turn dc_in_turn pm_in_turn cd_in_turn ct_in_turn : Value} {f_turned_put : Addr} {od_turned_put an_turned_put : Option Addr} {sl_turned_put : Array (Option Value)} {oc_turned_put kV_turned_put dc_turned_put pm_turned_put cd_turned_put ct_turned_put : Value} {f_turned_part : Addr} {od_turned_part an_turned_part : Option Addr} {sl_turned_part : Array (Option Value)} {oc_turned_part kV_turned_part dc_turned_part pm_turned_part cd_turned_part ct_turned_part : Value} {f_turned_saying : Addr} {od_turned_saying an_turned_saying : Option Addr} {sl_turned_saying : Array (Option Value)} {oc_turned_saying kV_turned_saying dc_turned_saying pm_turned_saying cd_turned_saying ct_turned_saying : Value} {f__law_mixed : Addr} {od__law_mixed an__law_mixed : Option Addr} {sl__law_mixed : Array (Option Value)} {oc__law_mixed kV__law_mixed dc__law_mixed pm__law_mixed cd__law_mixed ct__law_mixed : Value} {f__law_cell : Addr} {od__law_cell an__law_cell : Option Addr} {sl__law_cell : Array (Option Value)} {oc__law_cell kV__law_cell dc__law_cell pm__law_cell cd__law_cell ct__law_cell : Value} {f__law_take : Addr} {od__law_take an__law_take : Option Addr} {sl__law_take : Array (Option Value)} {oc__law_take kV__law_take dc__law_take pm__law_take cd__law_take ct__law_take : Value} {f__law_shape : Addr} {od__law_shape an__law_shape : Option Addr} {sl__law_shape : Array (Option Value)} {oc__law_shape kV__law_shape dc__law_shape pm__law_shape cd__law_shape ct__law_shape : Value} {f__law_named : Addr} {od__law_named an__law_named : Option Addr} {sl__law_named : Array (Option Value)} {oc__law_named kV__law_named dc__law_named pm__law_named cd__law_named ct__law_named : Value} {f__law_test : Addr} {od__law_test an__law_test : Option Addr} {sl__law_test : Array (Option Value)} {oc__law_test kV__law_test dc__law_test pm__law_test cd__law_test ct__law_test : Value} {f__law_saying : Addr} {od__law_saying an__law_saying : Option Addr} {sl__law_saying : Array (Option Value)} {oc__law_saying kV__law_saying dc__law_saying pm__law_saying cd__law_saying ct__law_saying : Value} {f__law_drawn : Addr} {od__law_drawn an__law_drawn : Option Addr} {sl__law_drawn : Array (Option Value)} {oc__law_drawn kV__law_drawn dc__law_drawn pm__law_drawn cd__law_drawn ct__law_drawn : Value} {f__law_due : Addr} {od__law_due an__law_due : Option Addr} {sl__law_due : Array (Option Value)} {oc__law_due kV__law_due dc__law_due pm__law_due cd__law_due ct__law_due : Value} {f_law : Addr} {od_law an_law : Option Addr} {sl_law : Array (Option Value)} {oc_law kV_law dc_law pm_law cd_law ct_law : Value} {C_FIELD_WORDS : Addr} {dd_FIELD_WORDS : Option Addr} {sl_FIELD_WORDS : Array (Option Value)} {its_FIELD_WORDS : Array Value} {n_FIELD_WORDS : Nat} {C_LENGTHS : Addr} {es_LENGTHS : Array DictEntry} {n_LENGTHS : Nat} {t_MOST_FIELDS : Tok} {t_MOST_LETTERS : Tok} {t_MOST_NOTES : Tok} {t_MOST_VALUES : Tok} {C_TEST_WORDS : Addr} {dd_TEST_WORDS : Option Addr} {sl_TEST_WORDS : Array (Option Value)} {its_TEST_WORDS : Array Value} {n_TEST_WORDS : Nat} {C_SayError : Addr} {C_NoShape : Addr} {C_NoSaying : Addr}
    (a_is_number : PySem.W.nsIn K mainGlobals "is_number" = some (some (.ref f_is_number)))
    (l_is_number : K.lookup f_is_number = some ⟨oc_is_number, od_is_number, .func (PySem.W.fnOf "is_number" "is_number" (defArgs s_is_number) (defBody s_is_number) (defScope s_is_number) .none kV_is_number dc_is_number pm_is_number an_is_number cd_is_number ct_is_number), sl_is_number⟩)
    (c_is_number : PySem.W.codeIn K cd_is_number "is_number" = true)
    (k_is_number : PySem.W.keepIn K (.ref f_is_number) = true)
    (a_is_below : PySem.W.nsIn K mainGlobals "is_below" = some (some (.ref f_is_below)))
    (l_is_below : K.lookup f_is_below = some ⟨oc_is_below, od_is_below, .func (PySem.W.fnOf "is_below" "is_below" (defArgs s_is_below) (defBody s_is_below) (defScope s_is_below) .none kV_is_below dc_is_below pm_is_below an_is_below cd_is_below ct_is_below), sl_is_below⟩)
    (c_is_below : PySem.W.codeIn K cd_is_below "is_below" = true)
    (k_is_below : PySem.W.keepIn K (.ref f_is_below) = true)
    (a_is_shape : PySem.W.nsIn K mainGlobals "is_shape" = some (some (.ref f_is_shape)))
    (l_is_shape : K.lookup f_is_shape = some ⟨oc_is_shape, od_is_shape, .func (PySem.W.fnOf "is_shape" "is_shape" (defArgs s_is_shape) (defBody s_is_shape) (defScope s_is_shape) .none kV_is_shape dc_is_shape pm_is_shape an_is_shape cd_is_shape ct_is_shape), sl_is_shape⟩)
    (c_is_shape : PySem.W.codeIn K cd_is_shape "is_shape" = true)
    (k_is_shape : PySem.W.keepIn K (.ref f_is_shape) = true)
    (a_check_shape : PySem.W.nsIn K mainGlobals "check_shape" = some (some (.ref f_check_shape)))
    (l_check_shape : K.lookup f_check_shape = some ⟨oc_check_shape, od_check_shape, .func (PySem.W.fnOf "check_shape" "check_shape" (defArgs s_check_shape) (defBody s_check_shape) (defScope s_check_shape) .none kV_check_shape dc_check_shape pm_check_shape an_check_shape cd_check_shape ct_check_shape), sl_check_shape⟩)
    (c_check_shape : PySem.W.codeIn K cd_check_shape "check_shape" = true)
    (k_check_shape : PySem.W.keepIn K (.ref f_check_shape) = true)
    (a_has_part_form : PySem.W.nsIn K mainGlobals "has_part_form" = some (some (.ref f_has_part_form)))
    (l_has_part_form : K.lookup f_has_part_form = some ⟨oc_has_part_form, od_has_part_form, .func (PySem.W.fnOf "has_part_form" "has_part_form" (defArgs s_has_part_form) (defBody s_has_part_form) (defScope s_has_part_form) .none kV_has_part_form dc_has_part_form pm_has_part_form an_has_part_form cd_has_part_form ct_has_part_form), sl_has_part_form⟩)
    (c_has_part_form : PySem.W.codeIn K cd_has_part_form "has_part_form" = true)
    (k_has_part_form : PySem.W.keepIn K (.ref f_has_part_form) = true)
    (a_inner_parts : PySem.W.nsIn K mainGlobals "inner_parts" = some (some (.ref f_inner_parts)))
    (l_inner_parts : K.lookup f_inner_parts = some ⟨oc_inner_parts, od_inner_parts, .func (PySem.W.fnOf "inner_parts" "inner_parts" (defArgs s_inner_parts) (defBody s_inner_parts) (defScope s_inner_parts) .none kV_inner_parts dc_inner_parts pm_inner_parts an_inner_parts cd_inner_parts ct_inner_parts), sl_inner_parts⟩)
    (c_inner_parts : PySem.W.codeIn K cd_inner_parts "inner_parts" = true)
    (k_inner_parts : PySem.W.keepIn K (.ref f_inner_parts) = true)
    (a_is_made_well : PySem.W.nsIn K mainGlobals "is_made_well" = some (some (.ref f_is_made_well)))
    (l_is_made_well : K.lookup f_is_made_well = some ⟨oc_is_made_well, od_is_made_well, .func (PySem.W.fnOf "is_made_well" "is_made_well" (defArgs s_is_made_well) (defBody s_is_made_well) (defScope s_is_made_well) .none kV_is_made_well dc_is_made_well pm_is_made_well an_is_made_well cd_is_made_well ct_is_made_well), sl_is_made_well⟩)
    (c_is_made_well : PySem.W.codeIn K cd_is_made_well "is_made_well" = true)
    (k_is_made_well : PySem.W.keepIn K (.ref f_is_made_well) = true)
    (a_is_saying : PySem.W.nsIn K mainGlobals "is_saying" = some (some (.ref f_is_saying)))
    (l_is_saying : K.lookup f_is_saying = some ⟨oc_is_saying, od_is_saying, .func (PySem.W.fnOf "is_saying" "is_saying" (defArgs s_is_saying) (defBody s_is_saying) (defScope s_is_saying) .none kV_is_saying dc_is_saying pm_is_saying an_is_saying cd_is_saying ct_is_saying), sl_is_saying⟩)
    (c_is_saying : PySem.W.codeIn K cd_is_saying "is_saying" = true)
    (k_is_saying : PySem.W.keepIn K (.ref f_is_saying) = true)
    (a_check_saying : PySem.W.nsIn K mainGlobals "check_saying" = some (some (.ref f_check_saying)))
    (l_check_saying : K.lookup f_check_saying = some ⟨oc_check_saying, od_check_saying, .func (PySem.W.fnOf "check_saying" "check_saying" (defArgs s_check_saying) (defBody s_check_saying) (defScope s_check_saying) .none kV_check_saying dc_check_saying pm_check_saying an_check_saying cd_check_saying ct_check_saying), sl_check_saying⟩)
    (c_check_saying : PySem.W.codeIn K cd_check_saying "check_saying" = true)
    (k_check_saying : PySem.W.keepIn K (.ref f_check_saying) = true)
    (a_turned_inner : PySem.W.nsIn K mainGlobals "turned_inner" = some (some (.ref f_turned_inner)))
    (l_turned_inner : K.lookup f_turned_inner = some ⟨oc_turned_inner, od_turned_inner, .func (PySem.W.fnOf "turned_inner" "turned_inner" (defArgs s_turned_inner) (defBody s_turned_inner) (defScope s_turned_inner) .none kV_turned_inner dc_turned_inner pm_turned_inner an_turned_inner cd_turned_inner ct_turned_inner), sl_turned_inner⟩)
    (c_turned_inner : PySem.W.codeIn K cd_turned_inner "turned_inner" = true)
    (k_turned_inner : PySem.W.keepIn K (.ref f_turned_inner) = true)
    (a_parts_by : PySem.W.nsIn K mainGlobals "parts_by" = some (some (.ref f_parts_by)))
    (l_parts_by : K.lookup f_parts_by = some ⟨oc_parts_by, od_parts_by, .func (PySem.W.fnOf "parts_by" "parts_by" (defArgs s_parts_by) (defBody s_parts_by) (defScope s_parts_by) .none kV_parts_by dc_parts_by pm_parts_by an_parts_by cd_parts_by ct_parts_by), sl_parts_by⟩)
    (c_parts_by : PySem.W.codeIn K cd_parts_by "parts_by" = true)
    (k_parts_by : PySem.W.keepIn K (.ref f_parts_by) = true)
    (a_in_turn : PySem.W.nsIn K mainGlobals "in_turn" = some (some (.ref f_in_turn)))
    (l_in_turn : K.lookup f_in_turn = some ⟨oc_in_turn, od_in_turn, .func (PySem.W.fnOf "in_turn" "in_turn" (defArgs s_in_turn) (defBody s_in_turn) (defScope s_in_turn) .none kV_in_turn dc_in_turn pm_in_turn an_in_turn cd_in_turn ct_in_turn), sl_in_turn⟩)
    (c_in_turn : PySem.W.codeIn K cd_in_turn "in_turn" = true)
    (k_in_turn : PySem.W.keepIn K (.ref f_in_turn) = true)
    (a_turned_put : PySem.W.nsIn K mainGlobals "turned_put" = some (some (.ref f_turned_put)))
    (l_turned_put : K.lookup f_turned_put = some ⟨oc_turned_put, od_turned_put, .func (PySem.W.fnOf "turned_put" "turned_put" (defArgs s_turned_put) (defBody s_turned_put) (defScope s_turned_put) .none kV_turned_put dc_turned_put pm_turned_put an_turned_put cd_turned_put ct_turned_put), sl_turned_put⟩)
    (c_turned_put : PySem.W.codeIn K cd_turned_put "turned_put" = true)
    (k_turned_put : PySem.W.keepIn K (.ref f_turned_put) = true)
    (a_turned_part : PySem.W.nsIn K mainGlobals "turned_part" = some (some (.ref f_turned_part)))
    (l_turned_part : K.lookup f_turned_part = some ⟨oc_turned_part, od_turned_part, .func (PySem.W.fnOf "turned_part" "turned_part" (defArgs s_turned_part) (defBody s_turned_part) (defScope s_turned_part) .none kV_turned_part dc_turned_part pm_turned_part an_turned_part cd_turned_part ct_turned_part), sl_turned_part⟩)
    (c_turned_part : PySem.W.codeIn K cd_turned_part "turned_part" = true)
    (k_turned_part : PySem.W.keepIn K (.ref f_turned_part) = true)
    (a_turned_saying : PySem.W.nsIn K mainGlobals "turned_saying" = some (some (.ref f_turned_saying)))
    (l_turned_saying : K.lookup f_turned_saying = some ⟨oc_turned_saying, od_turned_saying, .func (PySem.W.fnOf "turned_saying" "turned_saying" (defArgs s_turned_saying) (defBody s_turned_saying) (defScope s_turned_saying) .none kV_turned_saying dc_turned_saying pm_turned_saying an_turned_saying cd_turned_saying ct_turned_saying), sl_turned_saying⟩)
    (c_turned_saying : PySem.W.codeIn K cd_turned_saying "turned_saying" = true)
    (k_turned_saying : PySem.W.keepIn K (.ref f_turned_saying) = true)
    (a__law_mixed : PySem.W.nsIn K mainGlobals "_law_mixed" = some (some (.ref f__law_mixed)))
    (l__law_mixed : K.lookup f__law_mixed = some ⟨oc__law_mixed, od__law_mixed, .func (PySem.W.fnOf "_law_mixed" "_law_mixed" (defArgs s__law_mixed) (defBody s__law_mixed) (defScope s__law_mixed) .none kV__law_mixed dc__law_mixed pm__law_mixed an__law_mixed cd__law_mixed ct__law_mixed), sl__law_mixed⟩)
    (c__law_mixed : PySem.W.codeIn K cd__law_mixed "_law_mixed" = true)
    (k__law_mixed : PySem.W.keepIn K (.ref f__law_mixed) = true)
    (a__law_cell : PySem.W.nsIn K mainGlobals "_law_cell" = some (some (.ref f__law_cell)))
    (l__law_cell : K.lookup f__law_cell = some ⟨oc__law_cell, od__law_cell, .func (PySem.W.fnOf "_law_cell" "_law_cell" (defArgs s__law_cell) (defBody s__law_cell) (defScope s__law_cell) .none kV__law_cell dc__law_cell pm__law_cell an__law_cell cd__law_cell ct__law_cell), sl__law_cell⟩)
    (c__law_cell : PySem.W.codeIn K cd__law_cell "_law_cell" = true)
    (k__law_cell : PySem.W.keepIn K (.ref f__law_cell) = true)
    (a__law_take : PySem.W.nsIn K mainGlobals "_law_take" = some (some (.ref f__law_take)))
    (l__law_take : K.lookup f__law_take = some ⟨oc__law_take, od__law_take, .func (PySem.W.fnOf "_law_take" "_law_take" (defArgs s__law_take) (defBody s__law_take) (defScope s__law_take) .none kV__law_take dc__law_take pm__law_take an__law_take cd__law_take ct__law_take), sl__law_take⟩)
    (c__law_take : PySem.W.codeIn K cd__law_take "_law_take" = true)
    (k__law_take : PySem.W.keepIn K (.ref f__law_take) = true)
    (a__law_shape : PySem.W.nsIn K mainGlobals "_law_shape" = some (some (.ref f__law_shape)))
    (l__law_shape : K.lookup f__law_shape = some ⟨oc__law_shape, od__law_shape, .func (PySem.W.fnOf "_law_shape" "_law_shape" (defArgs s__law_shape) (defBody s__law_shape) (defScope s__law_shape) .none kV__law_shape dc__law_shape pm__law_shape an__law_shape cd__law_shape ct__law_shape), sl__law_shape⟩)
    (c__law_shape : PySem.W.codeIn K cd__law_shape "_law_shape" = true)
    (k__law_shape : PySem.W.keepIn K (.ref f__law_shape) = true)
    (a__law_named : PySem.W.nsIn K mainGlobals "_law_named" = some (some (.ref f__law_named)))
    (l__law_named : K.lookup f__law_named = some ⟨oc__law_named, od__law_named, .func (PySem.W.fnOf "_law_named" "_law_named" (defArgs s__law_named) (defBody s__law_named) (defScope s__law_named) .none kV__law_named dc__law_named pm__law_named an__law_named cd__law_named ct__law_named), sl__law_named⟩)
    (c__law_named : PySem.W.codeIn K cd__law_named "_law_named" = true)
    (k__law_named : PySem.W.keepIn K (.ref f__law_named) = true)
    (a__law_test : PySem.W.nsIn K mainGlobals "_law_test" = some (some (.ref f__law_test)))
    (l__law_test : K.lookup f__law_test = some ⟨oc__law_test, od__law_test, .func (PySem.W.fnOf "_law_test" "_law_test" (defArgs s__law_test) (defBody s__law_test) (defScope s__law_test) .none kV__law_test dc__law_test pm__law_test an__law_test cd__law_test ct__law_test), sl__law_test⟩)
    (c__law_test : PySem.W.codeIn K cd__law_test "_law_test" = true)
    (k__law_test : PySem.W.keepIn K (.ref f__law_test) = true)
    (a__law_saying : PySem.W.nsIn K mainGlobals "_law_saying" = some (some (.ref f__law_saying)))
    (l__law_saying : K.lookup f__law_saying = some ⟨oc__law_saying, od__law_saying, .func (PySem.W.fnOf "_law_saying" "_law_saying" (defArgs s__law_saying) (defBody s__law_saying) (defScope s__law_saying) .none kV__law_saying dc__law_saying pm__law_saying an__law_saying cd__law_saying ct__law_saying), sl__law_saying⟩)
    (c__law_saying : PySem.W.codeIn K cd__law_saying "_law_saying" = true)
    (k__law_saying : PySem.W.keepIn K (.ref f__law_saying) = true)
    (a__law_drawn : PySem.W.nsIn K mainGlobals "_law_drawn" = some (some (.ref f__law_drawn)))
    (l__law_drawn : K.lookup f__law_drawn = some ⟨oc__law_drawn, od__law_drawn, .func (PySem.W.fnOf "_law_drawn" "_law_drawn" (defArgs s__law_drawn) (defBody s__law_drawn) (defScope s__law_drawn) .none kV__law_drawn dc__law_drawn pm__law_drawn an__law_drawn cd__law_drawn ct__law_drawn), sl__law_drawn⟩)
    (c__law_drawn : PySem.W.codeIn K cd__law_drawn "_law_drawn" = true)
    (k__law_drawn : PySem.W.keepIn K (.ref f__law_drawn) = true)
    (a__law_due : PySem.W.nsIn K mainGlobals "_law_due" = some (some (.ref f__law_due)))
    (l__law_due : K.lookup f__law_due = some ⟨oc__law_due, od__law_due, .func (PySem.W.fnOf "_law_due" "_law_due" (defArgs s__law_due) (defBody s__law_due) (defScope s__law_due) .none kV__law_due dc__law_due pm__law_due an__law_due cd__law_due ct__law_due), sl__law_due⟩)
    (c__law_due : PySem.W.codeIn K cd__law_due "_law_due" = true)
    (k__law_due : PySem.W.keepIn K (.ref f__law_due) = true)
    (a_law : PySem.W.nsIn K mainGlobals "law" = some (some (.ref f_law)))
    (l_law : K.lookup f_law = some ⟨oc_law, od_law, .func (PySem.W.fnOf "law" "law" (defArgs s_law) (defBody s_law) (defScope s_law) .none kV_law dc_law pm_law an_law cd_law ct_law), sl_law⟩)
    (c_law : PySem.W.codeIn K cd_law "law" = true)
    (k_law : PySem.W.keepIn K (.ref f_law) = true)
    (z_bool : PySem.W.nsIn K mainGlobals "bool" = some none)
    (z_int : PySem.W.nsIn K mainGlobals "int" = some none)
    (z_isinstance : PySem.W.nsIn K mainGlobals "isinstance" = some none)
    (z_len : PySem.W.nsIn K mainGlobals "len" = some none)
    (z_min : PySem.W.nsIn K mainGlobals "min" = some none)
    (z_range : PySem.W.nsIn K mainGlobals "range" = some none)
    (z_repr : PySem.W.nsIn K mainGlobals "repr" = some none)
    (z_reversed : PySem.W.nsIn K mainGlobals "reversed" = some none)
    (z_str : PySem.W.nsIn K mainGlobals "str" = some none)
    (z_tuple : PySem.W.nsIn K mainGlobals "tuple" = some none)
    (g_FIELD_WORDS : PySem.W.nsIn K mainGlobals "FIELD_WORDS" = some (some (.ref C_FIELD_WORDS)))
    (l_FIELD_WORDS : K.lookup C_FIELD_WORDS = some ⟨.type "tuple", dd_FIELD_WORDS, .seq its_FIELD_WORDS n_FIELD_WORDS, sl_FIELD_WORDS⟩)
    (y_FIELD_WORDS : its_FIELD_WORDS.size ≤ 1000 ∧ strsAre its_FIELD_WORDS.toList t_FIELD_WORDS)
    (g_LENGTHS : PySem.W.nsIn K mainGlobals "LENGTHS" = some (some (.ref C_LENGTHS)))
    (l_LENGTHS : K.lookup C_LENGTHS = some ⟨.type "dict", none, .dict es_LENGTHS n_LENGTHS, #[]⟩)
    (v_LENGTHS : PySem.W.KeysLit w.params es_LENGTHS.toList ∧ (C_LENGTHS == sysModules) = false ∧ EntsAre es_LENGTHS.toList t_LENGTHS)
    (q_MOST_FIELDS : PySem.W.nsIn K mainGlobals "MOST_FIELDS" = some (some (.int 3 t_MOST_FIELDS)))
    (q_MOST_LETTERS : PySem.W.nsIn K mainGlobals "MOST_LETTERS" = some (some (.int 27 t_MOST_LETTERS)))
    (q_MOST_NOTES : PySem.W.nsIn K mainGlobals "MOST_NOTES" = some (some (.int 5 t_MOST_NOTES)))
    (q_MOST_VALUES : PySem.W.nsIn K mainGlobals "MOST_VALUES" = some (some (.int 4 t_MOST_VALUES)))
    (g_TEST_WORDS : PySem.W.nsIn K mainGlobals "TEST_WORDS" = some (some (.ref C_TEST_WORDS)))
    (l_TEST_WORDS : K.lookup C_TEST_WORDS = some ⟨.type "tuple", dd_TEST_WORDS, .seq its_TEST_WORDS n_TEST_WORDS, sl_TEST_WORDS⟩)
    (y_TEST_WORDS : its_TEST_WORDS.size ≤ 1000 ∧ strsAre its_TEST_WORDS.toList t_TEST_WORDS)
    (g_SayError : PySem.W.nsIn K mainGlobals "SayError" = some (some (.ref C_SayError)))
    (g_NoShape : PySem.W.nsIn K mainGlobals "NoShape" = some (some (.ref C_NoShape)))
    (g_NoSaying : PySem.W.nsIn K mainGlobals "NoSaying" = some (some (.ref C_NoSaying)))
    (x_NoSaying : PySem.W.excIn K C_NoSaying [.type "ValueError", .type "Exception", .type "BaseException", .type "object"] "ValueError.__new__" = true)
    (p_NoSaying : PySem.W.keepIn K (.ref C_NoSaying) = true)
    (u_NoSaying : PySem.W.subIn K (.ref C_NoSaying) (.type "BaseException") = some true)
    (t_NoSaying : PySem.W.typeIn K (.ref C_NoSaying) = some (.type "type"))
    (x_NoShape : PySem.W.excIn K C_NoShape [.type "ValueError", .type "Exception", .type "BaseException", .type "object"] "ValueError.__new__" = true)
    (p_NoShape : PySem.W.keepIn K (.ref C_NoShape) = true)
    (u_NoShape : PySem.W.subIn K (.ref C_NoShape) (.type "BaseException") = some true)
    (t_NoShape : PySem.W.typeIn K (.ref C_NoShape) = some (.type "type")) :
    ∃ fd : FuncData, (∀ (s : Shared) (v : Value), BindsTo s fd ⟨[v], []⟩ [("_law_script", v)]) ∧ ∃ sp : Sp, (∀ base : Heap, K.In base → base.Ns mainGlobals mg → FnG P w K mg base (FU + 8) fa fd ["_law_script"] sp) ∧
      ∀ (H : Hp) (a : Addr) (ns : List Int), ns.length ≤ 63 → SqL K H a (ns.map V.int) → sp [.ref a] H (fun v _ => v = .bl true) fun _ _ _ => False := by
  have e := hfa.symm.trans (PySem.W.mg_of X G a_law)
  cases e
  let Z : Zs := ⟨C_SayError, C_NoShape, C_NoSaying, C_FIELD_WORDS, C_LENGTHS, C_TEST_WORDS, f_turned_inner⟩
  have T : Txt K mg Z w := { b_bool := PySem.W.mg_none_of X G z_bool, b_int := PySem.W.mg_none_of X G z_int, b_isinstance := PySem.W.mg_none_of X G z_isinstance, b_len := PySem.W.mg_none_of X G z_len, b_min := PySem.W.mg_none_of X G z_min, b_range := PySem.W.mg_none_of X G z_range, b_repr := PySem.W.mg_none_of X G z_repr, b_reversed := PySem.W.mg_none_of X G z_reversed, b_str := PySem.W.mg_none_of X G z_str, b_tuple := PySem.W.mg_none_of X G z_tuple, k_MOST_FIELDS := by unfold tok_MOST_FIELDS; rw [PySem.W.mg_of X G q_MOST_FIELDS], k_MOST_LETTERS := by unfold tok_MOST_LETTERS; rw [PySem.W.mg_of X G q_MOST_LETTERS], k_MOST_NOTES := by unfold tok_MOST_NOTES; rw [PySem.W.mg_of X G q_MOST_NOTES], k_MOST_VALUES := by unfold tok_MOST_VALUES; rw [PySem.W.mg_of X G q_MOST_VALUES], k_FIELD_WORDS := PySem.W.mg_of X G g_FIELD_WORDS, k_LENGTHS := PySem.W.mg_of X G g_LENGTHS, k_TEST_WORDS := PySem.W.mg_of X G g_TEST_WORDS, r_FIELD_WORDS := ktup_of l_FIELD_WORDS (big (Nat.le_trans y_FIELD_WORDS.1 (by decide))) y_FIELD_WORDS.2, r_TEST_WORDS := ktup_of l_TEST_WORDS (big (Nat.le_trans y_TEST_WORDS.1 (by decide))) y_TEST_WORDS.2, r_LENGTHS := ktab_of l_LENGTHS v_LENGTHS.1 v_LENGTHS.2.1 v_LENGTHS.2.2, g_turned_inner := PySem.W.mg_of X G a_turned_inner, c_SayError := PySem.W.mg_of X G g_SayError, c_NoShape := PySem.W.mg_of X G g_NoShape, c_NoSaying := PySem.W.mg_of X G g_NoSaying, x_NoSaying := x_NoSaying, p_NoSaying := p_NoSaying, u_NoSaying := u_NoSaying, t_NoSaying := t_NoSaying, x_NoShape := x_NoShape, p_NoShape := p_NoShape, u_NoShape := u_NoShape, t_NoShape := t_NoShape }
  have FC : Fcts K Z := { ok := trivial }
  have F_is_number := fun_mk (st := s_is_number) l_is_number c_is_number k_is_number
  have F_is_below := fun_mk (st := s_is_below) l_is_below c_is_below k_is_below
  have F_is_shape := fun_mk (st := s_is_shape) l_is_shape c_is_shape k_is_shape
  have F_check_shape := fun_mk (st := s_check_shape) l_check_shape c_check_shape k_check_shape
  have F_has_part_form := fun_mk (st := s_has_part_form) l_has_part_form c_has_part_form k_has_part_form
  have F_inner_parts := fun_mk (st := s_inner_parts) l_inner_parts c_inner_parts k_inner_parts
  have F_is_made_well := fun_mk (st := s_is_made_well) l_is_made_well c_is_made_well k_is_made_well
  have F_is_saying := fun_mk (st := s_is_saying) l_is_saying c_is_saying k_is_saying
  have F_check_saying := fun_mk (st := s_check_saying) l_check_saying c_check_saying k_check_saying
  have F_turned_inner := fun_mk (st := s_turned_inner) l_turned_inner c_turned_inner k_turned_inner
  have F_parts_by := fun_mk (st := s_parts_by) l_parts_by c_parts_by k_parts_by
  have F_in_turn := fun_mk (st := s_in_turn) l_in_turn c_in_turn k_in_turn
  have F_turned_put := fun_mk (st := s_turned_put) l_turned_put c_turned_put k_turned_put
  have F_turned_part := fun_mk (st := s_turned_part) l_turned_part c_turned_part k_turned_part
  have F_turned_saying := fun_mk (st := s_turned_saying) l_turned_saying c_turned_saying k_turned_saying
  have F__law_mixed := fun_mk (st := s__law_mixed) l__law_mixed c__law_mixed k__law_mixed
  have F__law_cell := fun_mk (st := s__law_cell) l__law_cell c__law_cell k__law_cell
  have F__law_take := fun_mk (st := s__law_take) l__law_take c__law_take k__law_take
  have F__law_shape := fun_mk (st := s__law_shape) l__law_shape c__law_shape k__law_shape
  have F__law_named := fun_mk (st := s__law_named) l__law_named c__law_named k__law_named
  have F__law_test := fun_mk (st := s__law_test) l__law_test c__law_test k__law_test
  have F__law_saying := fun_mk (st := s__law_saying) l__law_saying c__law_saying k__law_saying
  have F__law_drawn := fun_mk (st := s__law_drawn) l__law_drawn c__law_drawn k__law_drawn
  have F__law_due := fun_mk (st := s__law_due) l__law_due c__law_due k__law_due
  have F_law := fun_mk (st := s_law) l_law c_law k_law
  refine ⟨PySem.W.fnOf "law" "law" (defArgs s_law) (defBody s_law) (defScope s_law) .none kV_law dc_law pm_law an_law cd_law ct_law, fun s v => .of_eq rfl, spD K 1 (fn_law Z), fun base _ _ => ?_, fun H a ns hl hS => ?_⟩
  case refine_2 =>
    obtain ⟨ps', e, hl'⟩ := true_law K Z FC ns hl
    exact law_sp hS e hl'
  have E_is_number : FnE P w K mg base 1 "is_number" ["thing"] fn_is_number := ⟨⟨_, _, ok_is_number T F_is_number, PySem.W.mg_of X G a_is_number, k_is_number, F_is_number.binds (ps := ["thing"]) fun _ _ _ _ _ _ us hl => match us, hl with | [_], _ => rfl⟩, fun qs z e => fnD_len qs z e⟩
  have E_is_below : FnE P w K mg base 2 "is_below" ["thing", "most"] fn_is_below := ⟨⟨_, _, ok_is_below T F_is_below E_is_number, PySem.W.mg_of X G a_is_below, k_is_below, F_is_below.binds (ps := ["thing", "most"]) fun _ _ _ _ _ _ us hl => match us, hl with | [_, _], _ => rfl⟩, fun qs z e => fnD_len qs z e⟩
  have E_is_shape : FnE P w K mg base 2 "is_shape" ["thing"] fn_is_shape := ⟨⟨_, _, ok_is_shape T F_is_shape E_is_number, PySem.W.mg_of X G a_is_shape, k_is_shape, F_is_shape.binds (ps := ["thing"]) fun _ _ _ _ _ _ us hl => match us, hl with | [_], _ => rfl⟩, fun qs z e => fnD_len qs z e⟩
  have E_check_shape : FnE P w K mg base 3 "check_shape" ["shape"] (fn_check_shape Z) := ⟨⟨_, _, ok_check_shape T F_check_shape E_is_shape, PySem.W.mg_of X G a_check_shape, k_check_shape, F_check_shape.binds (ps := ["shape"]) fun _ _ _ _ _ _ us hl => match us, hl with | [_], _ => rfl⟩, fun qs z e => fnD_len qs z e⟩
  have E_has_part_form : FnE P w K mg base 3 "has_part_form" ["shape", "thing"] fn_has_part_form := ⟨⟨_, _, ok_has_part_form T F_has_part_form E_is_below, PySem.W.mg_of X G a_has_part_form, k_has_part_form, F_has_part_form.binds (ps := ["shape", "thing"]) fun _ _ _ _ _ _ us hl => match us, hl with | [_, _], _ => rfl⟩, fun qs z e => fnD_len qs z e⟩
  have E_inner_parts : FnE P w K mg base 1 "inner_parts" ["part"] fn_inner_parts := ⟨⟨_, _, ok_inner_parts T F_inner_parts, PySem.W.mg_of X G a_inner_parts, k_inner_parts, F_inner_parts.binds (ps := ["part"]) fun _ _ _ _ _ _ us hl => match us, hl with | [_], _ => rfl⟩, fun qs z e => fnD_len qs z e⟩
  have E_is_made_well : FnE P w K mg base 4 "is_made_well" ["shape", "thing", "as_test"] fn_is_made_well := ⟨⟨_, _, ok_is_made_well T F_is_made_well E_has_part_form E_inner_parts, PySem.W.mg_of X G a_is_made_well, k_is_made_well, F_is_made_well.binds (ps := ["shape", "thing", "as_test"]) fun _ _ _ _ _ _ us hl => match us, hl with | [_, _, _], _ => rfl⟩, fun qs z e => fnD_len qs z e⟩
  have E_is_saying : FnE P w K mg base 5 "is_saying" ["shape", "thing"] (fn_is_saying Z) := ⟨⟨_, _, ok_is_saying T F_is_saying E_check_shape E_is_made_well, PySem.W.mg_of X G a_is_saying, k_is_saying, F_is_saying.binds (ps := ["shape", "thing"]) fun _ _ _ _ _ _ us hl => match us, hl with | [_, _], _ => rfl⟩, fun qs z e => fnD_len qs z e⟩
  have E_check_saying : FnE P w K mg base 6 "check_saying" ["shape", "saying"] (fn_check_saying Z) := ⟨⟨_, _, ok_check_saying T F_check_saying E_is_saying, PySem.W.mg_of X G a_check_saying, k_check_saying, F_check_saying.binds (ps := ["shape", "saying"]) fun _ _ _ _ _ _ us hl => match us, hl with | [_, _], _ => rfl⟩, fun qs z e => fnD_len qs z e⟩
  have E_turned_inner : FnE P w K mg base 2 "turned_inner" ["part"] fn_turned_inner := ⟨⟨_, _, ok_turned_inner T F_turned_inner E_inner_parts, PySem.W.mg_of X G a_turned_inner, k_turned_inner, F_turned_inner.binds (ps := ["part"]) fun _ _ _ _ _ _ us hl => match us, hl with | [_], _ => rfl⟩, fun qs z e => fnD_len qs z e⟩
  have E_parts_by : FnE P w K mg base 3 "parts_by" ["saying", "inner_of"] (fn_parts_by Z) := ⟨⟨_, _, ok_parts_by T F_parts_by E_turned_inner, PySem.W.mg_of X G a_parts_by, k_parts_by, F_parts_by.binds (ps := ["saying", "inner_of"]) fun _ _ _ _ _ _ us hl => match us, hl with | [_, _], _ => rfl⟩, fun qs z e => fnD_len qs z e⟩
  have E_in_turn : FnE P w K mg base 1 "in_turn" ["word", "sayings", "last"] fn_in_turn := ⟨⟨_, _, ok_in_turn T F_in_turn, PySem.W.mg_of X G a_in_turn, k_in_turn, F_in_turn.binds (ps := ["word", "sayings", "last"]) fun _ _ _ _ _ _ us hl => match us, hl with | [_, _, _], _ => rfl⟩, fun qs z e => fnD_len qs z e⟩
  have E_turned_put : FnE P w K mg base 2 "turned_put" ["shape", "field", "value"] fn_turned_put := ⟨⟨_, _, ok_turned_put T F_turned_put E_in_turn, PySem.W.mg_of X G a_turned_put, k_turned_put, F_turned_put.binds (ps := ["shape", "field", "value"]) fun _ _ _ _ _ _ us hl => match us, hl with | [_, _, _], _ => rfl⟩, fun qs z e => fnD_len qs z e⟩
  have E_turned_part : FnE P w K mg base 3 "turned_part" ["shape", "part", "made"] fn_turned_part := ⟨⟨_, _, ok_turned_part T F_turned_part E_turned_put, PySem.W.mg_of X G a_turned_part, k_turned_part, F_turned_part.binds (ps := ["shape", "part", "made"]) fun _ _ _ _ _ _ us hl => match us, hl with | [_, _, _], _ => rfl⟩, fun qs z e => fnD_len qs z e⟩
  have E_turned_saying : FnE P w K mg base 7 "turned_saying" ["shape", "saying"] (fn_turned_saying Z) := ⟨⟨_, _, ok_turned_saying T F_turned_saying E_check_saying E_parts_by E_turned_part, PySem.W.mg_of X G a_turned_saying, k_turned_saying, F_turned_saying.binds (ps := ["shape", "saying"]) fun _ _ _ _ _ _ us hl => match us, hl with | [_, _], _ => rfl⟩, fun qs z e => fnD_len qs z e⟩
  have E__law_mixed : FnE P w K mg base 1 "_law_mixed" ["_law_cell_here", "_law_k"] fn__law_mixed := ⟨⟨_, _, ok__law_mixed T F__law_mixed, PySem.W.mg_of X G a__law_mixed, k__law_mixed, F__law_mixed.binds (ps := ["_law_cell_here", "_law_k"]) fun _ _ _ _ _ _ us hl => match us, hl with | [_, _], _ => rfl⟩, fun qs z e => fnD_len qs z e⟩
  have E__law_cell : FnE P w K mg base 2 "_law_cell" ["_law_script", "_law_k"] fn__law_cell := ⟨⟨_, _, ok__law_cell T F__law_cell E__law_mixed, PySem.W.mg_of X G a__law_cell, k__law_cell, F__law_cell.binds (ps := ["_law_script", "_law_k"]) fun _ _ _ _ _ _ us hl => match us, hl with | [_, _], _ => rfl⟩, fun qs z e => fnD_len qs z e⟩
  have E__law_take : FnE P w K mg base 1 "_law_take" ["_law_pile", "_law_size"] fn__law_take := ⟨⟨_, _, ok__law_take T F__law_take, PySem.W.mg_of X G a__law_take, k__law_take, F__law_take.binds (ps := ["_law_pile", "_law_size"]) fun _ _ _ _ _ _ us hl => match us, hl with | [_, _], _ => rfl⟩, fun qs z e => fnD_len qs z e⟩
  have E__law_shape : FnE P w K mg base 2 "_law_shape" ["_law_pile"] fn__law_shape := ⟨⟨_, _, ok__law_shape T F__law_shape E__law_take, PySem.W.mg_of X G a__law_shape, k__law_shape, F__law_shape.binds (ps := ["_law_pile"]) fun _ _ _ _ _ _ us hl => match us, hl with | [_], _ => rfl⟩, fun qs z e => fnD_len qs z e⟩
  have E__law_named : FnE P w K mg base 2 "_law_named" ["_law_pile", "_law_word", "_law_shape_here"] fn__law_named := ⟨⟨_, _, ok__law_named T F__law_named E__law_take, PySem.W.mg_of X G a__law_named, k__law_named, F__law_named.binds (ps := ["_law_pile", "_law_word", "_law_shape_here"]) fun _ _ _ _ _ _ us hl => match us, hl with | [_, _, _], _ => rfl⟩, fun qs z e => fnD_len qs z e⟩
  have M__law_test : Named K mg "_law_test" f__law_test _ ["_law_pile", "_law_shape_here", "_law_deep"] := ⟨PySem.W.mg_of X G a__law_test, k__law_test, F__law_test.binds (ps := ["_law_pile", "_law_shape_here", "_law_deep"]) fun _ _ _ _ _ _ us hl => match us, hl with | [_, _, _], _ => rfl⟩
  have A__law_test : ∀ k : Nat, FnE P w K mg base (k + 2) "_law_test" ["_law_pile", "_law_shape_here", "_law_deep"] (fn__law_test k) := fun k => ⟨⟨_, _, ok__law_test T F__law_test M__law_test E__law_take E__law_named k, M__law_test.at_, M__law_test.keep, M__law_test.binds⟩, fl__law_test k⟩
  have E__law_test := A__law_test FU
  have M__law_saying : Named K mg "_law_saying" f__law_saying _ ["_law_pile", "_law_shape_here", "_law_deep", "_law_notes"] := ⟨PySem.W.mg_of X G a__law_saying, k__law_saying, F__law_saying.binds (ps := ["_law_pile", "_law_shape_here", "_law_deep", "_law_notes"]) fun _ _ _ _ _ _ us hl => match us, hl with | [_, _, _, _], _ => rfl⟩
  have A__law_saying : ∀ k : Nat, FnE P w K mg base (k + 2) "_law_saying" ["_law_pile", "_law_shape_here", "_law_deep", "_law_notes"] (fn__law_saying k) := fun k => ⟨⟨_, _, ok__law_saying T F__law_saying M__law_saying E__law_take E__law_named A__law_test k, M__law_saying.at_, M__law_saying.keep, M__law_saying.binds⟩, fl__law_saying k⟩
  have E__law_saying := A__law_saying FU
  have E__law_drawn : FnE P w K mg base (FU + 3) "_law_drawn" ["_law_script", "_law_k", "_law_deep"] fn__law_drawn := ⟨⟨_, _, ok__law_drawn T F__law_drawn E__law_cell E__law_take E__law_shape E__law_saying, PySem.W.mg_of X G a__law_drawn, k__law_drawn, F__law_drawn.binds (ps := ["_law_script", "_law_k", "_law_deep"]) fun _ _ _ _ _ _ us hl => match us, hl with | [_, _, _], _ => rfl⟩, fun qs z e => fnD_len qs z e⟩
  have M__law_due : Named K mg "_law_due" f__law_due _ ["_law_shape_here", "_law_saying_here"] := ⟨PySem.W.mg_of X G a__law_due, k__law_due, F__law_due.binds (ps := ["_law_shape_here", "_law_saying_here"]) fun _ _ _ _ _ _ us hl => match us, hl with | [_, _], _ => rfl⟩
  have A__law_due : ∀ k : Nat, FnE P w K mg base (k + 0) "_law_due" ["_law_shape_here", "_law_saying_here"] (fn__law_due k) := fun k => ⟨⟨_, _, ok__law_due T F__law_due M__law_due k, M__law_due.at_, M__law_due.keep, M__law_due.binds⟩, fl__law_due k⟩
  have E__law_due := A__law_due FU
  exact ok_law T F_law E_turned_saying E__law_drawn E__law_due

end K5
open PySem PySem.W PyProof.Rows
set_option maxRecDepth 100000 in
set_option maxHeartbeats 0 in
theorem PySem.Challenge.cw_roadsay_k50_sayings_turned_about_holds : PySem.Challenge.rw_roadsay_k50_sayings_turned_about.Holds := by
  w_on; o_law; k_head; (case hw => w_witness2)
  k_fill
  refine Q.walk_g (l := PySem.Challenge.rw_roadsay_k50_sayings_turned_about) (n := 63) (k := (K5.FU + 8)) (x := "_law_script") rfl (by decide) rfl ⟨rfl, by decide, by decide⟩ (fun w h Y => PySem.W.kIn_of Y) ?F
  case F =>
    intro w mg fa h KX G hmg
    refine' K5.all_mk K5.true_law KX G hmg ?a_is_number ?l_is_number ?c_is_number ?k_is_number ?a_is_below ?l_is_below ?c_is_below ?k_is_below ?a_is_shape ?l_is_shape ?c_is_shape ?k_is_shape ?a_check_shape ?l_check_shape ?c_check_shape ?k_check_shape ?a_has_part_form ?l_has_part_form ?c_has_part_form ?k_has_part_form ?a_inner_parts ?l_inner_parts ?c_inner_parts ?k_inner_parts ?a_is_made_well ?l_is_made_well ?c_is_made_well ?k_is_made_well ?a_is_saying ?l_is_saying ?c_is_saying ?k_is_saying ?a_check_saying ?l_check_saying ?c_check_saying ?k_check_saying ?a_turned_inner ?l_turned_inner ?c_turned_inner ?k_turned_inner ?a_parts_by ?l_parts_by ?c_parts_by ?k_parts_by ?a_in_turn ?l_in_turn ?c_in_turn ?k_in_turn ?a_turned_put ?l_turned_put ?c_turned_put ?k_turned_put ?a_turned_part ?l_turned_part ?c_turned_part ?k_turned_part ?a_turned_saying ?l_turned_saying ?c_turned_saying ?k_turned_saying ?a__law_mixed ?l__law_mixed ?c__law_mixed ?k__law_mixed ?a__law_cell ?l__law_cell ?c__law_cell ?k__law_cell ?a__law_take ?l__law_take ?c__law_take ?k__law_take ?a__law_shape ?l__law_shape ?c__law_shape ?k__law_shape ?a__law_named ?l__law_named ?c__law_named ?k__law_named ?a__law_test ?l__law_test ?c__law_test ?k__law_test ?a__law_saying ?l__law_saying ?c__law_saying ?k__law_saying ?a__law_drawn ?l__law_drawn ?c__law_drawn ?k__law_drawn ?a__law_due ?l__law_due ?c__law_due ?k__law_due ?a_law ?l_law ?c_law ?k_law ?z_bool ?z_int ?z_isinstance ?z_len ?z_min ?z_range ?z_repr ?z_reversed ?z_str ?z_tuple ?g_FIELD_WORDS ?l_FIELD_WORDS ?y_FIELD_WORDS ?g_LENGTHS ?l_LENGTHS ?v_LENGTHS ?q_MOST_FIELDS ?q_MOST_LETTERS ?q_MOST_NOTES ?q_MOST_VALUES ?g_TEST_WORDS ?l_TEST_WORDS ?y_TEST_WORDS ?g_SayError ?g_NoShape ?g_NoSaying ?x_NoSaying ?p_NoSaying ?u_NoSaying ?t_NoSaying ?x_NoShape ?p_NoShape ?u_NoShape ?t_NoShape
    (case a_is_number => k_is)
    (case l_is_number => k_is)
    (case c_is_number => k_is)
    (case k_is_number => k_is)
    (case a_is_below => k_is)
    (case l_is_below => k_is)
    (case c_is_below => k_is)
    (case k_is_below => k_is)
    (case a_is_shape => k_is)
    (case l_is_shape => k_is)
    (case c_is_shape => k_is)
    (case k_is_shape => k_is)
    (case a_check_shape => k_is)
    (case l_check_shape => k_is)
    (case c_check_shape => k_is)
    (case k_check_shape => k_is)
    (case a_has_part_form => k_is)
    (case l_has_part_form => k_is)
    (case c_has_part_form => k_is)
    (case k_has_part_form => k_is)
    (case a_inner_parts => k_is)
    (case l_inner_parts => k_is)
    (case c_inner_parts => k_is)
    (case k_inner_parts => k_is)
    (case a_is_made_well => k_is)
    (case l_is_made_well => k_is)
    (case c_is_made_well => k_is)
    (case k_is_made_well => k_is)
    (case a_is_saying => k_is)
    (case l_is_saying => k_is)
    (case c_is_saying => k_is)
    (case k_is_saying => k_is)
    (case a_check_saying => k_is)
    (case l_check_saying => k_is)
    (case c_check_saying => k_is)
    (case k_check_saying => k_is)
    (case a_turned_inner => k_is)
    (case l_turned_inner => k_is)
    (case c_turned_inner => k_is)
    (case k_turned_inner => k_is)
    (case a_parts_by => k_is)
    (case l_parts_by => k_is)
    (case c_parts_by => k_is)
    (case k_parts_by => k_is)
    (case a_in_turn => k_is)
    (case l_in_turn => k_is)
    (case c_in_turn => k_is)
    (case k_in_turn => k_is)
    (case a_turned_put => k_is)
    (case l_turned_put => k_is)
    (case c_turned_put => k_is)
    (case k_turned_put => k_is)
    (case a_turned_part => k_is)
    (case l_turned_part => k_is)
    (case c_turned_part => k_is)
    (case k_turned_part => k_is)
    (case a_turned_saying => k_is)
    (case l_turned_saying => k_is)
    (case c_turned_saying => k_is)
    (case k_turned_saying => k_is)
    (case a__law_mixed => k_is)
    (case l__law_mixed => k_is)
    (case c__law_mixed => k_is)
    (case k__law_mixed => k_is)
    (case a__law_cell => k_is)
    (case l__law_cell => k_is)
    (case c__law_cell => k_is)
    (case k__law_cell => k_is)
    (case a__law_take => k_is)
    (case l__law_take => k_is)
    (case c__law_take => k_is)
    (case k__law_take => k_is)
    (case a__law_shape => k_is)
    (case l__law_shape => k_is)
    (case c__law_shape => k_is)
    (case k__law_shape => k_is)
    (case a__law_named => k_is)
    (case l__law_named => k_is)
    (case c__law_named => k_is)
    (case k__law_named => k_is)
    (case a__law_test => k_is)
    (case l__law_test => k_is)
    (case c__law_test => k_is)
    (case k__law_test => k_is)
    (case a__law_saying => k_is)
    (case l__law_saying => k_is)
    (case c__law_saying => k_is)
    (case k__law_saying => k_is)
    (case a__law_drawn => k_is)
    (case l__law_drawn => k_is)
    (case c__law_drawn => k_is)
    (case k__law_drawn => k_is)
    (case a__law_due => k_is)
    (case l__law_due => k_is)
    (case c__law_due => k_is)
    (case k__law_due => k_is)
    (case a_law => k_is)
    (case l_law => k_is)
    (case c_law => k_is)
    (case k_law => k_is)
    (case z_bool => k_is)
    (case z_int => k_is)
    (case z_isinstance => k_is)
    (case z_len => k_is)
    (case z_min => k_is)
    (case z_range => k_is)
    (case z_repr => k_is)
    (case z_reversed => k_is)
    (case z_str => k_is)
    (case z_tuple => k_is)
    (case g_FIELD_WORDS => k_is)
    (case l_FIELD_WORDS => k_is)
    (case y_FIELD_WORDS => exact ⟨by decide, ⟨_, rfl⟩, ⟨_, rfl⟩, trivial⟩)
    (case g_LENGTHS => k_is)
    (case l_LENGTHS => k_is)
    (case v_LENGTHS => exact ⟨⟨⟨_, _, rfl, rfl⟩, ⟨_, _, rfl, rfl⟩, ⟨_, _, rfl, rfl⟩, ⟨_, _, rfl, rfl⟩, ⟨_, _, rfl, rfl⟩, ⟨_, _, rfl, rfl⟩, ⟨_, _, rfl, rfl⟩, ⟨_, _, rfl, rfl⟩, ⟨_, _, rfl, rfl⟩, trivial⟩, by decide, ⟨⟨_, rfl⟩, _, rfl⟩, ⟨⟨_, rfl⟩, _, rfl⟩, ⟨⟨_, rfl⟩, _, rfl⟩, ⟨⟨_, rfl⟩, _, rfl⟩, ⟨⟨_, rfl⟩, _, rfl⟩, ⟨⟨_, rfl⟩, _, rfl⟩, ⟨⟨_, rfl⟩, _, rfl⟩, ⟨⟨_, rfl⟩, _, rfl⟩, ⟨⟨_, rfl⟩, _, rfl⟩, trivial⟩)
    (case q_MOST_FIELDS => k_is)
    (case q_MOST_LETTERS => k_is)
    (case q_MOST_NOTES => k_is)
    (case q_MOST_VALUES => k_is)
    (case g_TEST_WORDS => k_is)
    (case l_TEST_WORDS => k_is)
    (case y_TEST_WORDS => exact ⟨by decide, ⟨_, rfl⟩, ⟨_, rfl⟩, ⟨_, rfl⟩, ⟨_, rfl⟩, ⟨_, rfl⟩, ⟨_, rfl⟩, trivial⟩)
    (case g_SayError => k_is)
    (case g_NoShape => k_is)
    (case g_NoSaying => k_is)
    (case x_NoSaying => k_exc)
    (case p_NoSaying => k_is)
    (case u_NoSaying => k_is)
    (case t_NoSaying => k_is)
    (case x_NoShape => k_exc)
    (case p_NoShape => k_is)
    (case u_NoShape => k_is)
    (case t_NoShape => k_is)
