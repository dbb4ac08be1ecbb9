import PyProof.Rows.All
import Wide.All
import OpenK.AllK
import Wide.FinOn
import HandS.ForMost
import HandS.ForExc
import HandS.IsInst
import HandS.ExcIs
import HandS.Wide
import HandS.TupAny
import HandS.Deep
import HandS.WideBits
import HandS.Sort
import PyProof.ReprRoads
import HandS.ExcValue
import PySem.Challenge.RW_roadsay_k01_what_is_a_shape
set_option Elab.async false
set_option linter.all false
set_option maxRecDepth 100000
set_option maxHeartbeats 2000000
namespace Q
open PySem PySem.Spec PyProof.Rows L2

/-! ### data -/
inductive D where
  | non | bl (b : Bool) | int (i : Int) | str (x : Str) | tup (l : List D) | lst (l : List D)
  | dk (ks : List Key) (l : List D) | dt (ks : List (List Key)) (l : List D) | exc (c : Addr) | scr (ns : List Int)
/-- an error that is kept as a value -/
def EO (c a : Addr) : HO := .ext fun h => ∃ (oe : Obj) (vs : Array Value), h.get? a = some oe ∧ Zc (.ref c) none oe ∧ oe.data = .fields vs

mutual
inductive Rp (K : PySem.W.Frag) (H : Hp) : D → V → Prop
  | non : Rp K H .non .non
  | bl (b : Bool) : Rp K H (.bl b) (.bl b)
  | int (i : Int) : Rp K H (.int i) (.int i)
  | str (x : Str) : Rp K H (.str x) (.str x)
  | lst {a : Addr} {xs : List V} {ds : List D} : H a = some (.lst xs) → RpL K H ds xs → Rp K H (.lst ds) (.ref a)
  | scr {a : Addr} {ns : List Int} : SqL K H a (ns.map V.int) → Rp K H (.scr ns) (.ref a)
  | tup {a : Addr} {xs : List V} {ds : List D} : SqT K H a xs → RpL K H ds xs → Rp K H (.tup ds) (.ref a)
  | dk {a : Addr} {ks : List Key} {xs : List V} {ds : List D} : Rd H a (.dK (ks.zip xs)) → ks.length = ds.length → RpL K H ds xs → Rp K H (.dk ks ds) (.ref a)
  | dt {a : Addr} {ks : List (List Key)} {xs : List V} {ds : List D} : Rd H a (.dT (ks.zip xs)) → ks.length = ds.length → RpL K H ds xs → Rp K H (.dt ks ds) (.ref a)
  | exc {a c : Addr} : Rd H a (EO c a) → Rp K H (.exc c) (.ref a)
inductive RpL (K : PySem.W.Frag) (H : Hp) : List D → List V → Prop
  | nil : RpL K H [] []
  | cons {v : V} {vs : List V} {d : D} {ds : List D} : Rp K H d v → RpL K H ds vs → RpL K H (d :: ds) (v :: vs)
end

/-- a dict, which a loop may lock -/
def IsD : HO → Prop
  | .dK _ => True
  | .dT _ => True
  | _ => False
/-- what H tells is told by H', for reading -/
def Sub (H H' : Hp) : Prop := ∀ a o, H a = some o → H' a = some o ∨ (IsD o ∧ ∃ q, H' a = some (.frz q o))
def Ex (H H' : Hp) : Prop := ∀ a o, H a = some o → H' a = some o
theorem Ex.refl (H : Hp) : Ex H H := fun _ _ h => h
theorem Ex.trans {H H1 H2 : Hp} (a : Ex H H1) (b : Ex H1 H2) : Ex H H2 := fun x o h => b x o (a x o h)
theorem Ex.new {H : Hp} {p : Addr} {o : HO} (h : H p = none) : Ex H (upd H p o) := fun a u e => by
  rw [upd_ne (ne_of_none e h)]
  exact e
theorem Ex.sub {H H' : Hp} (x : Ex H H') : Sub H H' := fun a o h => Or.inl (x a o h)
def Plain (_ : Hp) : Prop := True
theorem sub_rd {G H : Hp} {a : Addr} {u : HO} (p : Plain G) (e : Sub G H) (h : Rd G a u) : Rd H a u := by
  rcases h with h | ⟨o, h⟩
  · rcases e a _ h with q | ⟨_, o, q⟩
    · exact Or.inl q
    · exact Or.inr ⟨o, q⟩
  · rcases e a _ h with q | ⟨z, _⟩
    · exact Or.inr ⟨o, q⟩
    · exact z.elim
theorem sub_ex {G H : Hp} {a : Addr} {xs : List V} (e : Sub G H) (h : G a = some (.lst xs)) : H a = some (.lst xs) := by
  rcases e a _ h with q | ⟨z, _⟩
  · exact q
  · exact z.elim
section
variable {K : PySem.W.Frag} {H H' : Hp}
theorem sub_l {a : Addr} {xs : List V} (p : Plain H) (e : Sub H H') (h : SqL K H a xs) : SqL K H' a xs := by
  rcases h with h | h
  · exact Or.inl (sub_rd p e h)
  · exact Or.inr h
theorem sub_t {a : Addr} {xs : List V} (p : Plain H) (e : Sub H H') (h : SqT K H a xs) : SqT K H' a xs := by
  rcases h with h | h
  · exact Or.inl (sub_rd p e h)
  · exact Or.inr h
mutual
theorem Rp.sub (p : Plain H) (e : Sub H H') : ∀ (d : D) (v : V), Rp K H d v → Rp K H' d v
  | _, _, .non => .non
  | _, _, .bl b => .bl b
  | _, _, .int i => .int i
  | _, _, .str x => .str x
  | _, _, .lst h q => .lst (sub_ex e h) (RpL.sub p e _ _ q)
  | _, _, .scr h => .scr (sub_l p e h)
  | _, _, .tup h q => .tup (sub_t p e h) (RpL.sub p e _ _ q)
  | _, _, .dk h l q => .dk (sub_rd p e h) l (RpL.sub p e _ _ q)
  | _, _, .dt h l q => .dt (sub_rd p e h) l (RpL.sub p e _ _ q)
  | _, _, .exc h => .exc (sub_rd p e h)
theorem RpL.sub (p : Plain H) (e : Sub H H') : ∀ (ds : List D) (vs : List V), RpL K H ds vs → RpL K H' ds vs
  | _, _, .nil => .nil
  | _, _, .cons h q => .cons (Rp.sub p e _ _ h) (RpL.sub p e _ _ q)
end
theorem ex_rd {a : Addr} {u : HO} (e : Ex H H') (h : Rd H a u) : Rd H' a u := by
  rcases h with h | ⟨o, h⟩
  · exact Or.inl (e a _ h)
  · exact Or.inr ⟨o, e a _ h⟩
theorem ex_l {a : Addr} {xs : List V} (e : Ex H H') (h : SqL K H a xs) : SqL K H' a xs := by
  rcases h with h | h
  · exact Or.inl (ex_rd e h)
  · exact Or.inr h
theorem ex_t {a : Addr} {xs : List V} (e : Ex H H') (h : SqT K H a xs) : SqT K H' a xs := by
  rcases h with h | h
  · exact Or.inl (ex_rd e h)
  · exact Or.inr h
mutual
theorem Rp.mono' (e : Ex H H') : ∀ (d : D) (v : V), Rp K H d v → Rp K H' d v
  | _, _, .non => .non
  | _, _, .bl b => .bl b
  | _, _, .int i => .int i
  | _, _, .str x => .str x
  | _, _, .lst h q => .lst (e _ _ h) (RpL.mono' e _ _ q)
  | _, _, .scr h => .scr (ex_l e h)
  | _, _, .tup h q => .tup (ex_t e h) (RpL.mono' e _ _ q)
  | _, _, .dk h l q => .dk (ex_rd e h) l (RpL.mono' e _ _ q)
  | _, _, .dt h l q => .dt (ex_rd e h) l (RpL.mono' e _ _ q)
  | _, _, .exc h => .exc (ex_rd e h)
theorem RpL.mono' (e : Ex H H') : ∀ (ds : List D) (vs : List V), RpL K H ds vs → RpL K H' ds vs
  | _, _, .nil => .nil
  | _, _, .cons h q => .cons (Rp.mono' e _ _ h) (RpL.mono' e _ _ q)
end
theorem Rp.mono {d : D} {v : V} (h : Rp K H d v) (e : Ex H H') : Rp K H' d v := Rp.mono' e d v h
theorem RpL.mono {d : List D} {v : List V} (h : RpL K H d v) (e : Ex H H') : RpL K H' d v := RpL.mono' e d v h
theorem RpL.length {ds : List D} : ∀ {vs : List V}, RpL K H ds vs → ds.length = vs.length := by
  induction ds with
  | nil => intro vs h; cases h; rfl
  | cons d ds ih => intro vs h; cases h with | cons _ q => exact congrArg Nat.succ (ih q)
theorem RpL.append {ds es : List D} : ∀ {vs us : List V}, RpL K H ds vs → RpL K H es us → RpL K H (ds ++ es) (vs ++ us) := by
  induction ds with
  | nil => intro vs us h q; cases h; exact q
  | cons d ds ih => intro vs us h q; cases h with | cons h1 h2 => exact .cons h1 (ih h2 q)
theorem RpL.get {ds : List D} : ∀ {vs : List V} {i : Nat} {d : D}, RpL K H ds vs → ds[i]? = some d → ∃ v, vs[i]? = some v ∧ Rp K H d v := by
  induction ds with
  | nil => intro vs i d h e; cases e
  | cons d ds ih =>
    intro vs i d' h e
    cases h with | cons h1 h2 =>
      cases i with
      | zero => cases e; exact ⟨_, rfl, h1⟩
      | succ i =>
        obtain ⟨v, z1, z2⟩ := ih (i := i) h2 (by simpa using e)
        exact ⟨v, by simpa using z1, z2⟩
theorem RpL.take {ds : List D} : ∀ {vs : List V} (n : Nat), RpL K H ds vs → RpL K H (ds.take n) (vs.take n) := by
  induction ds with
  | nil => intro vs n h; cases h; simp; exact .nil
  | cons d ds ih => intro vs n h; cases h with | cons h1 h2 => cases n with
    | zero => exact .nil
    | succ n => exact .cons h1 (ih n h2)
theorem RpL.drop {ds : List D} : ∀ {vs : List V} (n : Nat), RpL K H ds vs → RpL K H (ds.drop n) (vs.drop n) := by
  induction ds with
  | nil => intro vs n h; cases h; simp; exact .nil
  | cons d ds ih => intro vs n h; cases h with | cons h1 h2 => cases n with
    | zero => exact .cons h1 h2
    | succ n => exact ih n h2
theorem RpL.reverse {ds : List D} : ∀ {vs : List V}, RpL K H ds vs → RpL K H ds.reverse vs.reverse := by
  induction ds with
  | nil => intro vs h; cases h; exact .nil
  | cons d ds ih => intro vs h; cases h with | cons h1 h2 => rw [List.reverse_cons, List.reverse_cons]; exact (ih h2).append (.cons h1 .nil)
end

/-! ### what a slot holds: its own trees of lists, and shared data -/
inductive T where
  | un | fz (d : D) | ls (l : List T) | tp (l : List T) | dk (ks : List Key) (l : List D) | dt (ks : List (List Key)) (l : List D)
abbrev Fp := Addr → Prop
mutual
def T.data : T → Option D
  | .un => none
  | .fz d => some d
  | .ls l => (dataL l).map .lst
  | .tp l => (dataL l).map .tup
  | .dk ks l => some (.dk ks l)
  | .dt ks l => some (.dt ks l)
def dataL : List T → Option (List D)
  | [] => some []
  | t :: l => t.data.bind fun d => (dataL l).map (d :: ·)
end
mutual
inductive Rt (K : PySem.W.Frag) (G H : Hp) : T → Option V → Fp → Prop
  | un {x : Option V} {f : Fp} : Rt K G H .un x f
  | fz {d : D} {v : V} {f : Fp} : Rp K G d v → Rt K G H (.fz d) (some v) f
  | ls {a : Addr} {vs : List V} {l : List T} {f g : Fp} : f a → H a = some (.lst vs) → RtL K G H l (vs.map some) g → (∀ b, g b → f b ∧ b ≠ a) → Rt K G H (.ls l) (some (.ref a)) f
  | tp {a : Addr} {vs : List V} {l : List T} {f g : Fp} : f a → H a = some (.tup vs) → RtL K G H l (vs.map some) g → (∀ b, g b → f b ∧ b ≠ a) → Rt K G H (.tp l) (some (.ref a)) f
  | dk {a : Addr} {ks : List Key} {vs : List V} {l : List D} {f : Fp} : f a → H a = some (.dK (ks.zip vs)) → ks.length = l.length → RpL K G l vs → Rt K G H (.dk ks l) (some (.ref a)) f
  | dt {a : Addr} {ks : List (List Key)} {vs : List V} {l : List D} {f : Fp} : f a → H a = some (.dT (ks.zip vs)) → ks.length = l.length → RpL K G l vs → Rt K G H (.dt ks l) (some (.ref a)) f
inductive RtL (K : PySem.W.Frag) (G H : Hp) : List T → List (Option V) → Fp → Prop
  | nil {f : Fp} : RtL K G H [] [] f
  | cons {t : T} {x : Option V} {ts : List T} {xs : List (Option V)} {f g h : Fp} : Rt K G H t x g → RtL K G H ts xs h → (∀ b, g b → f b) → (∀ b, h b → f b) → (∀ b, g b → ¬ h b) → RtL K G H (t :: ts) (x :: xs) f
end
section
variable {K : PySem.W.Frag} {G G' H H' : Hp}
theorem Rt.weak {t : T} {x : Option V} {f f' : Fp} (h : Rt K G H t x f) (w : ∀ b, f b → f' b) : Rt K G H t x f' := by
  cases h with
  | un => exact .un
  | fz h => exact .fz h
  | ls h1 h2 h3 h4 => exact .ls (w _ h1) h2 h3 fun b hb => ⟨w b (h4 b hb).1, (h4 b hb).2⟩
  | tp h1 h2 h3 h4 => exact .tp (w _ h1) h2 h3 fun b hb => ⟨w b (h4 b hb).1, (h4 b hb).2⟩
  | dk h1 h2 h3 h4 => exact .dk (w _ h1) h2 h3 h4
  | dt h1 h2 h3 h4 => exact .dt (w _ h1) h2 h3 h4
theorem RtL.weak {t : List T} {x : List (Option V)} {f f' : Fp} (h : RtL K G H t x f) (w : ∀ b, f b → f' b) : RtL K G H t x f' := by
  cases h with
  | nil => exact .nil
  | cons h1 h2 h3 h4 h5 => exact .cons h1 h2 (fun b hb => w b (h3 b hb)) (fun b hb => w b (h4 b hb)) h5
mutual
theorem Rt.frame' (e : Ex G G') : ∀ (t : T) (x : Option V) (f : Fp), Rt K G H t x f → (∀ b, f b → H' b = H b) → Rt K G' H' t x f
  | _, _, _, .un, _ => .un
  | _, _, _, .fz h, _ => .fz (h.mono e)
  | _, _, _, .ls h1 h2 h3 h4, k => .ls h1 ((k _ h1).trans h2) (RtL.frame' e _ _ _ h3 fun b hb => k b (h4 b hb).1) h4
  | _, _, _, .tp h1 h2 h3 h4, k => .tp h1 ((k _ h1).trans h2) (RtL.frame' e _ _ _ h3 fun b hb => k b (h4 b hb).1) h4
  | _, _, _, .dk h1 h2 h3 h4, k => .dk h1 ((k _ h1).trans h2) h3 (h4.mono e)
  | _, _, _, .dt h1 h2 h3 h4, k => .dt h1 ((k _ h1).trans h2) h3 (h4.mono e)
theorem RtL.frame' (e : Ex G G') : ∀ (t : List T) (x : List (Option V)) (f : Fp), RtL K G H t x f → (∀ b, f b → H' b = H b) → RtL K G' H' t x f
  | _, _, _, .nil, _ => .nil
  | _, _, _, .cons h1 h2 h3 h4 h5, k => .cons (Rt.frame' e _ _ _ h1 fun b hb => k b (h3 b hb)) (RtL.frame' e _ _ _ h2 fun b hb => k b (h4 b hb)) h3 h4 h5
end
theorem Rt.frame {t : T} {x : Option V} {f : Fp} (h : Rt K G H t x f) (e : Ex G G') (k : ∀ b, f b → H' b = H b) : Rt K G' H' t x f := Rt.frame' e t x f h k
theorem RtL.frame {t : List T} {x : List (Option V)} {f : Fp} (h : RtL K G H t x f) (e : Ex G G') (k : ∀ b, f b → H' b = H b) : RtL K G' H' t x f := RtL.frame' e t x f h k
/-! its own things are shared from now on -/
mutual
theorem Rt.ice' (e : Ex G G') : ∀ (t : T) (x : Option V) (f : Fp), Rt K G H t x f → (∀ b o, f b → H b = some o → (∀ q u, o ≠ .frz q u) → G' b = some o) → ∀ d, t.data = some d → ∃ v, x = some v ∧ Rp K G' d v
  | _, _, _, .un, _, d, z => by unfold T.data at z; cases z
  | _, _, _, .fz h, _, d, z => by unfold T.data at z; cases z; exact ⟨_, rfl, h.mono e⟩
  | _, _, _, .ls h1 h2 h3 h4, k, d, z => by
    unfold T.data at z
    obtain ⟨ds, z1, z2⟩ := Option.map_eq_some_iff.mp z
    subst z2
    exact ⟨_, rfl, .lst (k _ _ h1 h2 (fun _ _ z => HO.noConfusion z)) (RtL.ice' e _ _ _ h3 (fun b o hb => k b o (h4 b hb).1) ds z1 _ rfl)⟩
  | _, _, _, .tp h1 h2 h3 h4, k, d, z => by
    unfold T.data at z
    obtain ⟨ds, z1, z2⟩ := Option.map_eq_some_iff.mp z
    subst z2
    exact ⟨_, rfl, .tup (Or.inl (Or.inl (k _ _ h1 h2 (fun _ _ z => HO.noConfusion z)))) (RtL.ice' e _ _ _ h3 (fun b o hb => k b o (h4 b hb).1) ds z1 _ rfl)⟩
  | _, _, _, .dk h1 h2 h3 h4, k, d, z => by unfold T.data at z; cases z; exact ⟨_, rfl, .dk (Or.inl (k _ _ h1 h2 (fun _ _ z => HO.noConfusion z))) h3 (h4.mono e)⟩
  | _, _, _, .dt h1 h2 h3 h4, k, d, z => by unfold T.data at z; cases z; exact ⟨_, rfl, .dt (Or.inl (k _ _ h1 h2 (fun _ _ z => HO.noConfusion z))) h3 (h4.mono e)⟩
theorem RtL.ice' (e : Ex G G') : ∀ (t : List T) (x : List (Option V)) (f : Fp), RtL K G H t x f → (∀ b o, f b → H b = some o → (∀ q u, o ≠ .frz q u) → G' b = some o) → ∀ ds, dataL t = some ds → ∀ vs : List V, x = vs.map some → RpL K G' ds vs
  | _, _, _, .nil, _, d, z, vs, ev => by
    unfold dataL at z
    cases z
    cases vs with
    | nil => exact .nil
    | cons v vs => cases ev
  | _, _, _, .cons h1 h2 h3 h4 h5, k, d, z, vs, ev => by
    unfold dataL at z
    obtain ⟨d1, z1, z2⟩ := Option.bind_eq_some_iff.mp z
    obtain ⟨ds, z3, z4⟩ := Option.map_eq_some_iff.mp z2
    subst z4
    cases vs with
    | nil => cases ev
    | cons v vs =>
      obtain ⟨e1, e2⟩ := List.cons.inj ev
      obtain ⟨v', e3, q⟩ := Rt.ice' e _ _ _ h1 (fun b o hb => k b o (h3 b hb)) d1 z1
      rw [e1] at e3
      cases e3
      exact .cons q (RtL.ice' e _ _ _ h2 (fun b o hb => k b o (h4 b hb)) ds z3 vs e2)
end
theorem RtL.length {t : List T} : ∀ {x : List (Option V)} {f : Fp}, RtL K G H t x f → t.length = x.length := by
  induction t with
  | nil => intro x f h; cases h; rfl
  | cons t ts ih => intro x f h; cases h with | cons _ h2 _ _ _ => exact congrArg Nat.succ (ih h2)
theorem RtL.app {t2 : List T} {y : List (Option V)} {g : Fp} (h2 : RtL K G H t2 y g) {t1 : List T} : ∀ {x : List (Option V)} {f : Fp}, RtL K G H t1 x f → (∀ b, f b → ¬ g b) → RtL K G H (t1 ++ t2) (x ++ y) (fun b => f b ∨ g b) := by
  induction t1 with
  | nil => intro x f h1 d; cases h1; exact h2.weak fun b hb => Or.inr hb
  | cons t ts ih =>
    intro x f h1 d
    cases h1 with | cons a1 a2 a3 a4 a5 =>
      exact .cons a1 (ih a2 fun b hb => d b (a4 b hb)) (fun b hb => Or.inl (a3 b hb)) (fun b hb => hb.elim (fun z => Or.inl (a4 b z)) Or.inr) (fun b hb z => z.elim (a5 b hb) (d b (a3 b hb)))
theorem RtL.split {t2 : List T} {y : List (Option V)} {t1 : List T} : ∀ {x : List (Option V)} {f : Fp}, RtL K G H (t1 ++ t2) (x ++ y) f → t1.length = x.length → ∃ g h : Fp, RtL K G H t1 x g ∧ RtL K G H t2 y h ∧ (∀ b, g b → f b) ∧ (∀ b, h b → f b) ∧ ∀ b, g b → ¬ h b := by
  induction t1 with
  | nil =>
    intro x f h l
    cases x with
    | nil => exact ⟨fun _ => False, f, .nil, h, fun b hb => hb.elim, fun b hb => hb, fun b hb => hb.elim⟩
    | cons _ _ => cases l
  | cons t ts ih =>
    intro x f h l
    cases x with
    | nil => cases l
    | cons x xs =>
      cases h with | @cons _ _ _ _ _ g1 h1 a1 a2 a3 a4 a5 =>
        obtain ⟨g, h, b1, b2, b3, b4, b5⟩ := ih a2 (Nat.succ.inj l)
        refine ⟨fun b => g1 b ∨ g b, h, .cons a1 b1 (fun b hb => Or.inl hb) (fun b hb => Or.inr hb) (fun b hb z => a5 b hb (b3 b z)), b2, fun b hb => hb.elim (a3 b) fun z => a4 b (b3 b z), fun b hb => a4 b (b4 b hb), fun b hb z => hb.elim (fun q => a5 b q (b4 b z)) fun q => b5 b q z⟩
/-- one place of a list, and another thing in it -/
theorem RtL.at {t : T} {ts : List T} : ∀ {x : List (Option V)} {f : Fp} {i : Nat}, RtL K G H ts x f → ts[i]? = some t → ∃ (y : Option V) (g h : Fp), x[i]? = some y ∧ Rt K G H t y g ∧ (∀ b, g b → f b) ∧ (∀ b, h b → f b) ∧ (∀ b, g b → ¬ h b) ∧
    ∀ (G' H' : Hp) (t' : T) (y' : Option V) (g' : Fp), Ex G G' → (∀ b, h b → H' b = H b) → Rt K G' H' t' y' g' → (∀ b, g' b → ¬ h b) → RtL K G' H' (ts.set i t') (x.set i y') (fun b => g' b ∨ h b) := by
  induction ts with
  | nil => intro x f i h e; cases e
  | cons t0 ts ih =>
    intro x f i h e
    cases h with | @cons _ x0 _ xs _ g0 h0 a1 a2 a3 a4 a5 =>
      cases i with
      | zero =>
        cases e
        refine ⟨x0, g0, h0, rfl, a1, a3, a4, a5, fun G' H' t' y' g' eg k r d => ?_⟩
        exact .cons r (a2.frame eg k) (fun b hb => Or.inl hb) (fun b hb => Or.inr hb) d
      | succ i =>
        obtain ⟨y, g, h, b1, b2, b3, b4, b5, b6⟩ := ih (i := i) a2 e
        refine ⟨y, g, fun b => g0 b ∨ h b, b1, b2, fun b hb => a4 b (b3 b hb), fun b hb => hb.elim (a3 b) fun z => a4 b (b4 b z), fun b hb z => z.elim (fun q => a5 b q (b3 b hb)) (b5 b hb), fun G' H' t' y' g' eg k r d => ?_⟩
        exact .cons (g := g0) (h := fun b => g' b ∨ h b) (a1.frame eg fun b hb => k b (Or.inl hb)) (b6 G' H' t' y' g' eg (fun b hb => k b (Or.inr hb)) r fun b hb z => d b hb (Or.inr z)) (fun b hb => Or.inr (Or.inl hb))
          (fun b hb => hb.elim Or.inl fun z => Or.inr (Or.inr z)) (fun b hb z => z.elim (fun q => d b q (Or.inl hb)) fun q => a5 b hb (b4 b q))
end

/-! ### the state of a frame -/
structure Fx where
  B : Hp
  G0 : Hp
  L : Fp
def Own (F : Fx) (G H : Hp) (f : Fp) : Prop := ∀ b, f b → G b = none ∧ H b ≠ none ∧ (F.B b = none ∨ F.L b)
structure SI (K : PySem.W.Frag) (F : Fx) (G H : Hp) (r : List T) (x : List (Option V)) : Prop where
  own : ∃ f : Fp, RtL K G H r x f ∧ Own F G H f
  keep : ∀ a o, F.B a = some o → ¬ F.L a → H a = some o
  inn : ∀ a, F.L a → H a ≠ none
  g0 : Ex F.G0 G
  gh : Sub G H
  pl : Plain G
  gn : ∀ a o, G a = some o → F.G0 a = some o ∨ F.B a = none ∨ F.L a
section
variable {K : PySem.W.Frag} {F : Fx} {G G' H H' : Hp} {r r' : List T} {x x' : List (Option V)}
theorem SI.len (I : SI K F G H r x) : r.length = x.length := by
  obtain ⟨f, h, _⟩ := I.own
  exact h.length
theorem SI.Bnone (I : SI K F G H r x) {p : Addr} (h : H p = none) : F.B p = none := by
  cases hb : F.B p with
  | none => rfl
  | some o =>
    by_cases c : F.L p
    · exact absurd h (I.inn p c)
    · rw [I.keep p o hb c] at h; cases h
theorem SI.Gnone (I : SI K F G H r x) {p : Addr} (h : H p = none) : G p = none := by
  cases hb : G p with
  | none => rfl
  | some o =>
    rcases I.gh p o hb with q | ⟨_, _, q⟩ <;> (rw [h] at q; cases q)
/-- a step -/
theorem SI.next (I : SI K F G H r x) (f : Fp) (hf : Own F G H f) (e1 : Ex G G') (e2 : Sub G' H') (e3 : Plain G') (kp : ∀ a o, H a = some o → ¬ f a → H' a = some o) (lv : ∀ a, H a ≠ none → H' a ≠ none)
    (gn : ∀ a o, G' a = some o → G a = some o ∨ f a ∨ H a = none) {f' : Fp} (hr : RtL K G' H' r' x' f') (hf' : ∀ b, f' b → G' b = none ∧ H' b ≠ none ∧ (f b ∨ H b = none)) : SI K F G' H' r' x' := by
  refine ⟨⟨f', hr, fun b hb => ⟨(hf' b hb).1, (hf' b hb).2.1, (hf' b hb).2.2.elim (fun z => (hf b z).2.2) fun z => Or.inl (I.Bnone z)⟩⟩, fun a o e c => ?_, fun a c => lv a (I.inn a c), I.g0.trans e1, e2, e3, fun a o e => ?_⟩
  · refine kp a o (I.keep a o e c) fun z => ?_
    rcases (hf a z).2.2 with q | q
    · rw [e] at q; cases q
    · exact c q
  · rcases gn a o e with q | q | q
    · exact I.gn a o q
    · exact Or.inr ((hf a q).2.2)
    · exact Or.inr (Or.inl (I.Bnone q))
/-- only the holdings are told otherwise -/
theorem SI.same (I : SI K F G H r x) {f : Fp} (hf : Own F G H f) {f' : Fp} (hr : RtL K G H r' x' f') (w : ∀ b, f' b → f b) : SI K F G H r' x' :=
  I.next f hf (Ex.refl G) I.gh I.pl (fun a o e _ => e) (fun a h => h) (fun a o e => Or.inl e) hr (fun b hb => ⟨(hf b (w b hb)).1, (hf b (w b hb)).2.1, Or.inl (w b hb)⟩)
/-- a new thing at p, shared at once -/
theorem Sub.both {G H : Hp} {p : Addr} {o : HO} (e : Sub G H) (h : H p = none) : Sub (upd G p o) (upd H p o) := fun a u ha => by
  by_cases c : a = p
  · subst c
    rw [upd_same] at ha
    cases ha
    exact Or.inl upd_same
  · rw [upd_ne c] at ha
    rw [upd_ne c]
    exact e a u ha
theorem Plain.new {G : Hp} {p : Addr} {o : HO} (h : Plain G) (ho : ∀ q u, o ≠ .frz q u) : Plain (upd G p o) := trivial
theorem SI.laid (I : SI K F G H r x) {p : Addr} {o : HO} (h : H p = none) (ho : ∀ q u, o ≠ .frz q u) : SI K F (upd G p o) (upd H p o) r x := by
  obtain ⟨f, hr, hf⟩ := I.own
  have hg := I.Gnone h
  have np : ∀ b, f b → b ≠ p := fun b hb z => by subst z; exact (hf b hb).2.1 h
  refine I.next f hf (Ex.new hg) (I.gh.both h) (I.pl.new ho) (fun a u e _ => by rw [upd_ne (ne_of_none e h)]; exact e) (fun a ha => ?_) (fun a u e => ?_) (hr.frame (Ex.new hg) fun b hb => upd_ne (np b hb))
    (fun b hb => ⟨by rw [upd_ne (np b hb)]; exact (hf b hb).1, by rw [upd_ne (np b hb)]; exact (hf b hb).2.1, Or.inl hb⟩)
  · rw [upd_ne (fun z => ha (by rw [z]; exact h))]; exact ha
  · by_cases c : a = p
    · subst c; exact Or.inr (Or.inr h)
    · rw [upd_ne c] at e; exact Or.inl e
end
end Q

set_option Elab.async false
set_option linter.all false
set_option maxRecDepth 100000
set_option maxHeartbeats 2000000
namespace Q
open PySem PySem.Spec PyProof.Rows L2
open Classical in
noncomputable def mix (G : Hp) (g : Fp) (H : Hp) : Hp := fun b => if g b ∧ (∀ q u, H b ≠ some (.frz q u)) then H b else G b
theorem mix_in {G H : Hp} {g : Fp} {b : Addr} {o : HO} (hg : g b) (h : H b = some o) (ho : ∀ q u, o ≠ .frz q u) : mix G g H b = some o := by
  unfold mix
  rw [if_pos ⟨hg, fun q u z => ho q u (by rw [h] at z; exact Option.some.inj z)⟩, h]
theorem mix_out {G H : Hp} {g : Fp} {b : Addr} (hg : ¬ g b) : mix G g H b = G b := by
  unfold mix
  rw [if_neg fun z => hg z.1]
theorem mix_cases {G H : Hp} {g : Fp} {b : Addr} {o : HO} (h : mix G g H b = some o) : (g b ∧ H b = some o ∧ ∀ q u, o ≠ .frz q u) ∨ G b = some o := by
  unfold mix at h
  split at h
  · rename_i c
    exact Or.inl ⟨c.1, h, fun q u z => c.2 q u (by rw [h, z])⟩
  · exact Or.inr h
theorem set_same {α : Type} : ∀ {l : List α} {i : Nat} {a : α}, l[i]? = some a → l.set i a = l
  | [], _, _, h => by cases h
  | x :: l, 0, a, h => by cases h; rfl
  | x :: l, i + 1, a, h => by
    rw [List.set_cons_succ, set_same (by simpa using h)]
section
variable {K : PySem.W.Frag} {F : Fx} {G G' H H' : Hp} {r r' : List T} {x x' : List (Option V)}
/-- the thing in a place is shared from now on -/
theorem SI.iceAt (I : SI K F G H r x) {i : Nat} {t : T} {d : D} (e : r[i]? = some t) (hd : t.data = some d) : ∃ G' v, x[i]? = some (some v) ∧ Ex G G' ∧ SI K F G' H (r.set i (.fz d)) x ∧ Rp K G' d v := by
  obtain ⟨f, hr, hf⟩ := I.own
  obtain ⟨y, g, h, b1, b2, b3, b4, b5, b6⟩ := hr.at e
  have eg : Ex G (mix G g H) := fun b o hb => by
    rw [mix_out fun z => by rw [(hf b (b3 b z)).1] at hb; cases hb]
    exact hb
  obtain ⟨v, rfl, q⟩ := Rt.ice' eg t y g b2 (fun b o hb => mix_in hb) d hd
  refine ⟨mix G g H, v, b1, eg, ?_, q⟩
  have hr' := b6 (mix G g H) H (.fz d) (some v) (fun _ => False) eg (fun _ _ => rfl) (.fz q) (fun b hb => hb.elim)
  rw [set_same b1] at hr'
  refine I.next f hf eg (fun b o hb => ?_) trivial (fun a o e _ => e) (fun a z => z) (fun a o e => ?_) hr' (fun b hb => ?_)
  · rcases mix_cases hb with ⟨_, q, _⟩ | q
    · exact Or.inl q
    · exact I.gh b o q
  · rcases mix_cases e with ⟨q, _, _⟩ | q
    · exact Or.inr (Or.inl (b3 a q))
    · exact Or.inl q
  · rcases hb with z | z
    · exact z.elim
    · have := hf b (b4 b z)
      exact ⟨by rw [mix_out fun w => b5 b w z]; exact this.1, this.2.1, Or.inl (b4 b z)⟩
theorem SI.drop {t : List T} {y : List (Option V)} (I : SI K F G H (r ++ t) (x ++ y)) (hl : r.length = x.length) : SI K F G H r x := by
  obtain ⟨f, hr, hf⟩ := I.own
  obtain ⟨g, h, h1, h2, h3, h4, h5⟩ := hr.split hl
  exact I.same hf h1 h3
/-- shared things more -/
theorem RtL.fzs {l : List D} : ∀ {vs : List V}, RpL K G l vs → RtL K G H (l.map .fz) (vs.map some) (fun _ => False) := by
  induction l with
  | nil => intro vs h; cases h; exact .nil
  | cons d l ih => intro vs h; cases h with | cons h1 h2 => exact .cons (g := fun _ => False) (h := fun _ => False) (.fz h1) (ih h2) (fun b hb => hb) (fun b hb => hb) (fun b hb => hb.elim)
theorem SI.fzs (I : SI K F G H r x) {l : List D} {vs : List V} (h : RpL K G l vs) : SI K F G H (r ++ l.map .fz) (x ++ vs.map some) := by
  obtain ⟨f, hr, hf⟩ := I.own
  exact I.same hf ((RtL.fzs h).app hr fun b _ z => z) fun b hb => hb.elim (fun z => z) fun z => z.elim
/-- a new list of the last ones -/
theorem SI.pack {ts : List T} {vs : List V} (I : SI K F G H (r ++ ts) (x ++ vs.map some)) (hl : r.length = x.length) {p : Addr} (h : H p = none) : SI K F G (upd H p (.lst vs)) (r ++ [.ls ts]) (x ++ [some (.ref p)]) := by
  obtain ⟨f, hr, hf⟩ := I.own
  obtain ⟨g, k, h1, h2, h3, h4, h5⟩ := hr.split hl
  have np : ∀ b, f b → b ≠ p := fun b hb z => by subst z; exact (hf b hb).2.1 h
  have s1 : RtL K G (upd H p (.lst vs)) r x g := h1.frame (Ex.refl G) fun b hb => upd_ne (np b (h3 b hb))
  have s2 : RtL K G (upd H p (.lst vs)) ts (vs.map some) k := h2.frame (Ex.refl G) fun b hb => upd_ne (np b (h4 b hb))
  have s3 : RtL K G (upd H p (.lst vs)) [.ls ts] [some (.ref p)] (fun b => b = p ∨ k b) := .cons (.ls (Or.inl rfl) upd_same s2 fun b hb => ⟨Or.inr hb, np b (h4 b hb)⟩) (h := fun _ => False) .nil (fun b hb => hb) (fun b hb => hb.elim) (fun b _ z => z)
  refine I.next f hf (Ex.refl G) (fun a o e => ?_) I.pl (fun a o e _ => by rw [upd_ne (ne_of_none e h)]; exact e) (fun a ha => ?_) (fun a o e => Or.inl e) (s3.app s1 fun b hb z => z.elim (np b (h3 b hb)) (h5 b hb)) (fun b hb => ?_)
  · have : a ≠ p := fun z => by subst z; rw [I.Gnone h] at e; cases e
    rw [upd_ne this]
    exact I.gh a o e
  · rw [upd_ne (fun z => ha (by rw [z]; exact h))]; exact ha
  · have fin : f b → G b = none ∧ upd H p (.lst vs) b ≠ none ∧ (f b ∨ H b = none) := fun hb => ⟨(hf b hb).1, by rw [upd_ne (np b hb)]; exact (hf b hb).2.1, Or.inl hb⟩
    rcases hb with z | z | z
    · exact fin (h3 b z)
    · subst z
      exact ⟨I.Gnone h, by rw [upd_same]; exact Option.some_ne_none _, Or.inr h⟩
    · exact fin (h4 b z)
theorem SI.packT {ts : List T} {vs : List V} (I : SI K F G H (r ++ ts) (x ++ vs.map some)) (hl : r.length = x.length) {p : Addr} (h : H p = none) : SI K F G (upd H p (.tup vs)) (r ++ [.tp ts]) (x ++ [some (.ref p)]) := by
  obtain ⟨f, hr, hf⟩ := I.own
  obtain ⟨g, k, h1, h2, h3, h4, h5⟩ := hr.split hl
  have np : ∀ b, f b → b ≠ p := fun b hb z => by subst z; exact (hf b hb).2.1 h
  have s1 : RtL K G (upd H p (.tup vs)) r x g := h1.frame (Ex.refl G) fun b hb => upd_ne (np b (h3 b hb))
  have s2 : RtL K G (upd H p (.tup vs)) ts (vs.map some) k := h2.frame (Ex.refl G) fun b hb => upd_ne (np b (h4 b hb))
  have s3 : RtL K G (upd H p (.tup vs)) [.tp ts] [some (.ref p)] (fun b => b = p ∨ k b) := .cons (.tp (Or.inl rfl) upd_same s2 fun b hb => ⟨Or.inr hb, np b (h4 b hb)⟩) (h := fun _ => False) .nil (fun b hb => hb) (fun b hb => hb.elim) (fun b _ z => z)
  refine I.next f hf (Ex.refl G) (fun a o e => ?_) I.pl (fun a o e _ => by rw [upd_ne (ne_of_none e h)]; exact e) (fun a ha => ?_) (fun a o e => Or.inl e) (s3.app s1 fun b hb z => z.elim (np b (h3 b hb)) (h5 b hb)) (fun b hb => ?_)
  · have : a ≠ p := fun z => by subst z; rw [I.Gnone h] at e; cases e
    rw [upd_ne this]
    exact I.gh a o e
  · rw [upd_ne (fun z => ha (by rw [z]; exact h))]; exact ha
  · have fin : f b → G b = none ∧ upd H p (.tup vs) b ≠ none ∧ (f b ∨ H b = none) := fun hb => ⟨(hf b hb).1, by rw [upd_ne (np b hb)]; exact (hf b hb).2.1, Or.inl hb⟩
    rcases hb with z | z | z
    · exact fin (h3 b z)
    · subst z
      exact ⟨I.Gnone h, by rw [upd_same]; exact Option.some_ne_none _, Or.inr h⟩
    · exact fin (h4 b z)
end

/-! ### what an expression is worth -/
abbrev Env := List T
inductive W where
  | sh (d : D) | nw (t : T) | pl (i : Nat)
def W.tm : W → List T
  | .nw t => [t]
  | _ => []
def W.vl (v : V) : W → List (Option V)
  | .nw _ => [some v]
  | _ => []
def WV (K : PySem.W.Frag) (G : Hp) (s : L2.St) : W → V → Prop
  | .sh d, v => Rp K G d v
  | .nw _, _ => True
  | .pl i, v => s[i]? = some (some v)
abbrev ED := Env → Option (W × Env)
abbrev FD := Env → Option (D × Env)
abbrev FDs := Env → Option (List D × Env)
abbrev MD := Env → Option (T × Env)
abbrev MDs := Env → Option (List T × Env)
abbrev BD := Env → Option (Bool × Env)
def DE (K : PySem.W.Frag) (te : TE) (f : ED) : Prop := ∀ F G H r s tm us w r', SI K F G H (r ++ tm) (s ++ us) → r.length = s.length → f r = some (w, r') → ∀ Q : VK, (∀ v G' H', Ex G G' → SI K F G' H' (r' ++ (tm ++ w.tm)) (s ++ (us ++ w.vl v)) → r'.length = s.length → WV K G' s w v → Q v H') → te s H Q
def DF (K : PySem.W.Frag) (te : TE) (f : FD) : Prop := ∀ F G H r s tm us d r', SI K F G H (r ++ tm) (s ++ us) → r.length = s.length → f r = some (d, r') → ∀ Q : VK, (∀ v G' H', Ex G G' → SI K F G' H' (r' ++ tm) (s ++ us) → r'.length = s.length → Rp K G' d v → Q v H') → te s H Q
def DFs (K : PySem.W.Frag) (ta : TA) (f : FDs) : Prop := ∀ F G H r s tm us d r', SI K F G H (r ++ tm) (s ++ us) → r.length = s.length → f r = some (d, r') → ∀ Q : List V → Hp → Prop, (∀ v G' H', Ex G G' → SI K F G' H' (r' ++ tm) (s ++ us) → r'.length = s.length → RpL K G' d v → Q v H') → ta s H Q
def DM (K : PySem.W.Frag) (te : TE) (f : MD) : Prop := ∀ F G H r s tm us t r', SI K F G H (r ++ tm) (s ++ us) → r.length = s.length → f r = some (t, r') → ∀ Q : VK, (∀ v G' H', Ex G G' → SI K F G' H' (r' ++ (tm ++ [t])) (s ++ (us ++ [some v])) → r'.length = s.length → Q v H') → te s H Q
def DMs (K : PySem.W.Frag) (ta : TA) (f : MDs) : Prop := ∀ F G H r s tm us ts r', SI K F G H (r ++ tm) (s ++ us) → r.length = s.length → f r = some (ts, r') → ∀ Q : List V → Hp → Prop, (∀ (vs : List V) G' H', Ex G G' → SI K F G' H' (r' ++ (tm ++ ts)) (s ++ (us ++ vs.map some)) → r'.length = s.length → ts.length = vs.length → Q vs H') → ta s H Q
def DT (K : PySem.W.Frag) (tt : TT) (f : BD) : Prop := ∀ F G H r s tm us b r', SI K F G H (r ++ tm) (s ++ us) → r.length = s.length → f r = some (b, r') → ∀ Q : Bool → Hp → Prop, (∀ G' H', Ex G G' → SI K F G' H' (r' ++ tm) (s ++ us) → r'.length = s.length → Q b H') → tt s H Q
def share (r : Env) : W → Option (D × Env)
  | .sh d => some (d, r)
  | .nw t => t.data.bind fun d => some (d, r)
  | .pl i => (r[i]?).bind fun t => t.data.bind fun d => some (d, r.set i (.fz d))
section
variable {K : PySem.W.Frag} {F : Fx} {G G' H H' : Hp} {r r' : Env} {s : L2.St} {tm : List T} {us : List (Option V)}
theorem share_ok {w : W} {v : V} {d : D} (I : SI K F G H (r ++ (tm ++ w.tm)) (s ++ (us ++ w.vl v))) (hl : r.length = s.length) (hw : WV K G s w v) (e : share r w = some (d, r')) : ∃ G', Ex G G' ∧ SI K F G' H (r' ++ tm) (s ++ us) ∧ r'.length = s.length ∧ Rp K G' d v := by
  cases w with
  | sh d' =>
    cases e
    simp only [W.tm, W.vl, List.append_nil] at I
    exact ⟨G, Ex.refl G, I, hl, hw⟩
  | nw t =>
    obtain ⟨d', e1, e2⟩ := Option.bind_eq_some_iff.mp e
    cases e2
    simp only [W.tm, W.vl, ← List.append_assoc] at I
    have hl2 : (r ++ tm).length = (s ++ us).length := by
      have := I.len
      simp at this ⊢
      omega
    obtain ⟨G', v', z1, z2, z3, z4⟩ := I.iceAt (i := (r ++ tm).length) (by simp) e1
    rw [hl2] at z1
    simp at z1
    subst z1
    rw [List.set_append_right _ _ (Nat.le_refl _)] at z3
    exact ⟨G', z2, z3.drop hl2, hl, z4⟩
  | pl i =>
    obtain ⟨t, e0, e⟩ := Option.bind_eq_some_iff.mp e
    obtain ⟨d', e1, e2⟩ := Option.bind_eq_some_iff.mp e
    cases e2
    simp only [W.tm, W.vl, List.append_nil] at I
    have hi : i < r.length := (List.getElem?_eq_some_iff.mp e0).1
    obtain ⟨G', v', z1, z2, z3, z4⟩ := I.iceAt (i := i) (by rw [List.getElem?_append_left hi]; exact e0) e1
    rw [List.getElem?_append_left (by omega), hw] at z1
    cases z1
    rw [List.set_append_left _ _ hi] at z3
    exact ⟨G', z2, z3, by rw [List.length_set]; exact hl, z4⟩
def dSh (f : ED) : FD := fun r => (f r).bind fun p => share p.2 p.1
theorem df_of {te : TE} {f : ED} (h : DE K te f) : DF K te (dSh f) := fun F G H r s tm us d r' I hl e Q q => by
  obtain ⟨⟨w, r1⟩, e1, e⟩ := Option.bind_eq_some_iff.mp e
  refine h F G H r s tm us w r1 I hl e1 _ fun v G1 H1 x1 I1 l1 hw => ?_
  obtain ⟨G2, x2, I2, l2, q2⟩ := share_ok I1 l1 hw e
  exact q v G2 H1 (x1.trans x2) I2 l2 q2
def dLift (f : FD) : ED := fun r => (f r).bind fun p => some (.sh p.1, p.2)
theorem de_of {te : TE} {f : FD} (h : DF K te f) : DE K te (dLift f) := fun F G H r s tm us w r' I hl e Q q => by
  obtain ⟨⟨d, r1⟩, e1, e⟩ := Option.bind_eq_some_iff.mp e
  cases e
  exact h F G H r s tm us d r1 I hl e1 _ fun v G1 H1 x1 I1 l1 hd => q v G1 H1 x1 (by simpa only [W.tm, W.vl, List.append_nil] using I1) l1 hd
def dVar (i : Nat) : ED := fun r => match r[i]? with
  | some .un => none
  | none => none
  | some _ => some (.pl i, r)
theorem Rt.some_of {t : T} {y : Option V} {f : Fp} (h : Rt K G H t y f) (n : t ≠ .un) : ∃ v, y = some v := by
  cases h with
  | un => exact absurd rfl n
  | fz _ => exact ⟨_, rfl⟩
  | ls _ _ _ _ => exact ⟨_, rfl⟩
  | tp _ _ _ _ => exact ⟨_, rfl⟩
  | dk _ _ _ _ => exact ⟨_, rfl⟩
  | dt _ _ _ _ => exact ⟨_, rfl⟩
theorem SI.val (I : SI K F G H (r ++ tm) (s ++ us)) (hl : r.length = s.length) {i : Nat} {t : T} (e : r[i]? = some t) (n : t ≠ .un) : ∃ v, s[i]? = some (some v) := by
  obtain ⟨f, hr, _⟩ := I.own
  have hi : i < r.length := (List.getElem?_eq_some_iff.mp e).1
  obtain ⟨y, g, h, b1, b2, _⟩ := hr.at (i := i) (by rw [List.getElem?_append_left hi]; exact e)
  obtain ⟨v, rfl⟩ := b2.some_of n
  rw [List.getElem?_append_left (by omega)] at b1
  exact ⟨v, b1⟩
theorem de_var {i : Nat} : DE K (tVar i) (dVar i) := fun F G H r s tm us w r' I hl e Q q => by
  unfold dVar at e
  split at e
  · cases e
  · cases e
  · rename_i t hr n
    cases e
    obtain ⟨v, hv⟩ := I.val hl n hr
    exact ⟨v, hv, q v G H (Ex.refl G) (by simpa only [W.tm, W.vl, List.append_nil] using I) hl hv⟩
def dC (d : D) : ED := fun r => some (.sh d, r)
theorem de_c {d : D} {v : V} (h : ∀ G, Rp K G d v) : DE K (tC v) (dC d) := fun F G H r s tm us w r' I hl e Q q => by
  cases e
  exact q v G H (Ex.refl G) (by simpa only [W.tm, W.vl, List.append_nil] using I) hl (h G)
/-- the variable's own thing goes out of its slot -/
def dMove (i : Nat) : ED := fun r => match r[i]? with
  | some .un => none
  | none => none
  | some t => some (.nw t, r.set i .un)
theorem de_move {i : Nat} : DE K (tVar i) (dMove i) := fun F G H r s tm us w r' I hl e Q q => by
  unfold dMove at e
  split at e
  · cases e
  · cases e
  · rename_i t hr n
    cases e
    have hi : i < r.length := (List.getElem?_eq_some_iff.mp n).1
    obtain ⟨v, hv⟩ := I.val hl n hr
    refine ⟨v, hv, q v G H (Ex.refl G) ?_ (by rw [List.length_set]; exact hl) trivial⟩
    obtain ⟨f, hr, hf⟩ := I.own
    obtain ⟨y, g, h, b1, b2, b3, b4, b5, b6⟩ := hr.at (i := i) (by rw [List.getElem?_append_left hi]; exact n)
    have k1 := b6 G H .un y (fun _ => False) (Ex.refl G) (fun _ _ => rfl) .un (fun b hb => hb.elim)
    rw [set_same b1, List.set_append_left _ _ hi] at k1
    rw [List.getElem?_append_left (by omega), hv] at b1
    cases b1
    have k2 : RtL K G H [t] [some v] g := .cons b2 (h := fun _ => False) .nil (fun b hb => hb) (fun b hb => hb.elim) (fun b _ z => z)
    have k3 := k2.app k1 (fun b hb z => hb.elim (fun q => q) fun q => b5 b z q)
    simp only [W.tm, W.vl, ← List.append_assoc]
    exact I.same hf k3 fun b hb => hb.elim (fun z => z.elim (fun q => q.elim) (b4 b)) (b3 b)
def fdNil : FDs := fun r => some ([], r)
def fdCons (f : FD) (g : FDs) : FDs := fun r => (f r).bind fun p => (g p.2).bind fun q => some (p.1 :: q.1, q.2)
theorem fd_nil : DFs K tNil fdNil := fun F G H r s tm us d r' I hl e Q q => by
  cases e
  exact q [] G H (Ex.refl G) I hl .nil
theorem fd_cons {te : TE} {ta : TA} {f : FD} {g : FDs} (h1 : DF K te f) (h2 : DFs K ta g) : DFs K (tCons te ta) (fdCons f g) := fun F G H r s tm us d r' I hl e Q q => by
  obtain ⟨⟨d1, r1⟩, e1, e⟩ := Option.bind_eq_some_iff.mp e
  obtain ⟨⟨ds, r2⟩, e2, e⟩ := Option.bind_eq_some_iff.mp e
  cases e
  exact h1 F G H r s tm us d1 r1 I hl e1 _ fun v G1 H1 x1 I1 l1 q1 => h2 F G1 H1 r1 s tm us ds r2 I1 l1 e2 _ fun vs G2 H2 x2 I2 l2 q2 => q _ G2 H2 (x1.trans x2) I2 l2 (.cons (q1.mono x2) q2)
def mv (r : Env) : W → Option (T × Env)
  | .nw t => some (t, r)
  | w => (share r w).bind fun p => some (.fz p.1, p.2)
theorem fz_in (I : SI K F G H (r ++ tm) (s ++ us)) {d : D} {v : V} (q : Rp K G d v) : SI K F G H (r ++ (tm ++ [.fz d])) (s ++ (us ++ [some v])) := by
  have := I.fzs (l := [d]) (vs := [v]) (.cons q .nil)
  simpa only [List.map_cons, List.map_nil, List.append_assoc] using this
theorem mv_ok {w : W} {v : V} {t : T} (I : SI K F G H (r ++ (tm ++ w.tm)) (s ++ (us ++ w.vl v))) (hl : r.length = s.length) (hw : WV K G s w v) (e : mv r w = some (t, r')) : ∃ G', Ex G G' ∧ SI K F G' H (r' ++ (tm ++ [t])) (s ++ (us ++ [some v])) ∧ r'.length = s.length := by
  cases w with
  | nw t' => cases e; exact ⟨G, Ex.refl G, I, hl⟩
  | sh d =>
    obtain ⟨⟨d', r1⟩, e1, e⟩ := Option.bind_eq_some_iff.mp (show (share r (.sh d)).bind (fun p => some (T.fz p.1, p.2)) = some (t, r') from e)
    cases e
    obtain ⟨G1, x1, I1, l1, q1⟩ := share_ok I hl hw e1
    exact ⟨G1, x1, fz_in I1 q1, l1⟩
  | pl i =>
    obtain ⟨⟨d', r1⟩, e1, e⟩ := Option.bind_eq_some_iff.mp (show (share r (.pl i)).bind (fun p => some (T.fz p.1, p.2)) = some (t, r') from e)
    cases e
    obtain ⟨G1, x1, I1, l1, q1⟩ := share_ok I hl hw e1
    exact ⟨G1, x1, fz_in I1 q1, l1⟩
def dMv (f : ED) : MD := fun r => (f r).bind fun p => mv p.2 p.1
theorem dm_of {te : TE} {f : ED} (h : DE K te f) : DM K te (dMv f) := fun F G H r s tm us t r' I hl e Q q => by
  obtain ⟨⟨w, r1⟩, e1, e⟩ := Option.bind_eq_some_iff.mp e
  refine h F G H r s tm us w r1 I hl e1 _ fun v G1 H1 x1 I1 l1 hw => ?_
  obtain ⟨G2, x2, I2, l2⟩ := mv_ok I1 l1 hw e
  exact q v G2 H1 (x1.trans x2) I2 l2
def mdNil : MDs := fun r => some ([], r)
def mdCons (f : MD) (g : MDs) : MDs := fun r => (f r).bind fun p => (g p.2).bind fun q => some (p.1 :: q.1, q.2)
theorem md_nil : DMs K tNil mdNil := fun F G H r s tm us d r' I hl e Q q => by
  cases e
  exact q [] G H (Ex.refl G) (by simpa only [List.map_nil, List.append_nil] using I) hl rfl
theorem md_cons {te : TE} {ta : TA} {f : MD} {g : MDs} (h1 : DM K te f) (h2 : DMs K ta g) : DMs K (tCons te ta) (mdCons f g) := fun F G H r s tm us d r' I hl e Q q => by
  obtain ⟨⟨t1, r1⟩, e1, e⟩ := Option.bind_eq_some_iff.mp e
  obtain ⟨⟨ts, r2⟩, e2, e⟩ := Option.bind_eq_some_iff.mp e
  cases e
  refine h1 F G H r s tm us t1 r1 I hl e1 _ fun v G1 H1 x1 I1 l1 => h2 F G1 H1 r1 s (tm ++ [t1]) (us ++ [some v]) ts r2 I1 l1 e2 _ fun vs G2 H2 x2 I2 l2 lv => q (v :: vs) G2 H2 (x1.trans x2) ?_ l2 (congrArg Nat.succ lv)
  simpa only [List.append_assoc, List.cons_append, List.nil_append, List.map_cons] using I2

/-! ### operations upon shared values -/
inductive Rs where
  | val (d : D) | newT (l : List D) | newL (l : List D)
def Rs.w : Rs → W
  | .val d => .sh d
  | .newT l => .sh (.tup l)
  | .newL l => .nw (.ls (l.map .fz))
/-- what is wanted of an operation's end, by what it is worth -/
def RsOk (K : PySem.W.Frag) (G H : Hp) (Q : VK) : Rs → Prop
  | .val d => ∀ w, Rp K G d w → Q w H
  | .newT l => (∀ w, Rp K G (.tup l) w → Q w H) ∧ ∀ p vs, H p = none → RpL K G l vs → Q (.ref p) (upd H p (.tup vs))
  | .newL l => ∀ p vs, H p = none → RpL K G l vs → Q (.ref p) (upd H p (.lst vs))
theorem rs_ok {z : Rs} {Q : VK} (I : SI K F G H (r ++ tm) (s ++ us)) (hl : r.length = s.length) (q : ∀ v G' H', Ex G G' → SI K F G' H' (r ++ (tm ++ z.w.tm)) (s ++ (us ++ z.w.vl v)) → r.length = s.length → WV K G' s z.w v → Q v H') : RsOk K G H Q z := by
  cases z with
  | val d => exact fun w h => q w G H (Ex.refl G) (by simpa only [Rs.w, W.tm, W.vl, List.append_nil] using I) hl h
  | newT l => exact ⟨fun w h => q w G H (Ex.refl G) (by simpa only [Rs.w, W.tm, W.vl, List.append_nil] using I) hl h, fun p vs hp h => q _ _ _ (Ex.new (I.Gnone hp)) (by simpa only [Rs.w, W.tm, W.vl, List.append_nil] using I.laid hp (o := .tup vs) (fun _ _ z => HO.noConfusion z)) hl (.tup (Or.inl (Or.inl upd_same)) (h.mono (Ex.new (I.Gnone hp))))⟩
  | newL l =>
    refine fun p vs hp h => q _ _ _ (Ex.refl G) ?_ hl trivial
    have := (I.fzs h).pack I.len hp
    simpa only [Rs.w, W.tm, W.vl, List.append_assoc] using this
def DC (K : PySem.W.Frag) (rl : List V → Hp → VK → Prop) (g : List D → Option Rs) : Prop := ∀ G H xs vs z, Sub G H → Plain G → RpL K G xs vs → g xs = some z → ∀ Q : VK, RsOk K G H Q z → rl vs H Q
/-- several values, then an operation -/
def dWith (f : FDs) (g : List D → Option Rs) : ED := fun r => (f r).bind fun p => (g p.1).bind fun z => some (z.w, p.2)
theorem de_with {ta : TA} {f : FDs} {rl : List V → Hp → VK → Prop} {g : List D → Option Rs} (hf : DFs K ta f) (hg : DC K rl g) : DE K (fun σ H Q => ta σ H fun vs H1 => rl vs H1 Q) (dWith f g) := fun F G H r s tm us w r' I hl e Q q => by
  obtain ⟨⟨ds, r1⟩, e1, e⟩ := Option.bind_eq_some_iff.mp e
  obtain ⟨z, e2, e⟩ := Option.bind_eq_some_iff.mp e
  cases e
  exact hf F G H r s tm us ds r1 I hl e1 _ fun vs G1 H1 x1 I1 l1 q1 => hg G1 H1 ds vs z I1.gh I1.pl q1 e2 Q (rs_ok I1 l1 fun v G' H' x2 I2 l2 hw => q v G' H' (x1.trans x2) I2 l2 hw)
def rl2 (rl : R2) : List V → Hp → VK → Prop := fun vs H Q => match vs with
  | [v, u] => rl v u H Q
  | _ => False
def rl1 (rl : V → Hp → VK → Prop) : List V → Hp → VK → Prop := fun vs H Q => match vs with
  | [v] => rl v H Q
  | _ => False
def dOp (g : List D → Option Rs) (fa fb : FD) : ED := dWith (fdCons fa (fdCons fb fdNil)) g
def dUn (g : List D → Option Rs) (fa : FD) : ED := dWith (fdCons fa fdNil) g
theorem de_op {fa fb : FD} {g : List D → Option Rs} {ta tb : TE} {rl : R2} (ha : DF K ta fa) (hb : DF K tb fb) (hg : DC K (rl2 rl) g) : DE K (tOp rl ta tb) (dOp g fa fb) := fun F G H r s tm us w r' I hl e Q q =>
  de_with (ta := tCons ta (tCons tb tNil)) (rl := rl2 rl) (fd_cons ha (fd_cons hb fd_nil)) hg F G H r s tm us w r' I hl e Q q
theorem de_un {fa : FD} {g : List D → Option Rs} {ta : TE} {rl : V → Hp → VK → Prop} (ha : DF K ta fa) (hg : DC K (rl1 rl) g) : DE K (tUn rl ta) (dUn g fa) := fun F G H r s tm us w r' I hl e Q q =>
  de_with (ta := tCons ta tNil) (rl := rl1 rl) (fd_cons ha fd_nil) hg F G H r s tm us w r' I hl e Q q
/-! ### displays -/
theorem big {n : Nat} (h : n ≤ 1000000) : n ≤ sizeLine := Nat.le_trans h (by decide)
theorem bigl {n : Nat} (h : n < 1000000) : n < sizeLine := Nat.lt_of_lt_of_le h (by decide)
def gTupD (l : List D) : Option Rs := if l.length ≤ 1000000 then some (.newT l) else none
def gLstD (l : List D) : Option Rs := if l.length ≤ 1000000 then some (.newL l) else none
theorem de_tup {ta : TA} {f : FDs} (h : DFs K ta f) : DE K (tTup ta) (dWith f gTupD) := by
  refine de_with (rl := fun xs H Q => xs.length ≤ sizeLine ∧ ∀ p, H p = none → Q (.ref p) (upd H p (.tup xs))) h fun G H xs vs z _ _ q e Q k => ?_
  unfold gTupD at e
  split at e
  · rename_i c
    cases e
    exact ⟨big (q.length ▸ c), fun p hp => k.2 p vs hp q⟩
  · cases e
theorem de_lst {ta : TA} {f : FDs} (h : DFs K ta f) : DE K (tLst ta) (dWith f gLstD) := by
  refine de_with (rl := fun xs H Q => xs.length ≤ sizeLine ∧ ∀ p, H p = none → Q (.ref p) (upd H p (.lst xs))) h fun G H xs vs z _ _ q e Q k => ?_
  unfold gLstD at e
  split at e
  · rename_i c
    cases e
    exact ⟨big (q.length ▸ c), fun p hp => k p vs hp q⟩
  · cases e
def dLstO (f : MDs) : ED := fun r => (f r).bind fun p => if p.1.length ≤ 1000000 then some (.nw (.ls p.1), p.2) else none
def dTupO (f : MDs) : ED := fun r => (f r).bind fun p => if p.1.length ≤ 1000000 then some (.nw (.tp p.1), p.2) else none
theorem assoc_len {ts : List T} {vs : List V} (I : SI K F G H (r ++ (tm ++ ts)) (s ++ (us ++ vs.map some))) (hl : r.length = s.length) (h : ts.length = vs.length) : (r ++ tm).length = (s ++ us).length := by
  have := I.len
  simp at this ⊢
  omega
theorem de_lstO {ta : TA} {f : MDs} (h : DMs K ta f) : DE K (tLst ta) (dLstO f) := fun F G H r s tm us w r' I hl e Q q => by
  obtain ⟨⟨ts, r1⟩, e1, e⟩ := Option.bind_eq_some_iff.mp e
  split at e
  · rename_i c
    cases e
    refine h F G H r s tm us ts r1 I hl e1 _ fun vs G1 H1 x1 I1 l1 hv => ?_
    refine ⟨big (hv ▸ c), fun p hp => q _ _ _ x1 ?_ l1 trivial⟩
    have I2 : SI K F G1 H1 ((r1 ++ tm) ++ ts) ((s ++ us) ++ vs.map some) := by simpa only [List.append_assoc] using I1
    simpa only [W.tm, W.vl, List.append_assoc] using I2.pack (assoc_len I1 l1 hv) hp
  · cases e
theorem de_tupO {ta : TA} {f : MDs} (h : DMs K ta f) : DE K (tTup ta) (dTupO f) := fun F G H r s tm us w r' I hl e Q q => by
  obtain ⟨⟨ts, r1⟩, e1, e⟩ := Option.bind_eq_some_iff.mp e
  split at e
  · rename_i c
    cases e
    refine h F G H r s tm us ts r1 I hl e1 _ fun vs G1 H1 x1 I1 l1 hv => ?_
    refine ⟨big (hv ▸ c), fun p hp => q _ _ _ x1 ?_ l1 trivial⟩
    have I2 : SI K F G1 H1 ((r1 ++ tm) ++ ts) ((s ++ us) ++ vs.map some) := by simpa only [List.append_assoc] using I1
    simpa only [W.tm, W.vl, List.append_assoc] using I2.packT (assoc_len I1 l1 hv) hp
  · cases e
/-! ### tests -/
def truth : D → Option Bool
  | .non => some false
  | .bl b => some b
  | .int i => some (i != 0)
  | .str x => if x.length ≤ 1000000 then some ((x.length : Int) != 0) else none
  | .lst l => some (!l.isEmpty)
  | .tup l => some (!l.isEmpty)
  | _ => none
theorem truth_ok {d : D} {v : V} {b : Bool} (q : Rp K H d v) (e : truth d = some b) : TruV K v H b := by
  cases d with
  | non => cases q; cases e; rfl
  | bl c => cases q; cases e; rfl
  | int i => cases q; cases e; rfl
  | str z =>
    cases q
    unfold truth at e
    dsimp only at e
    split at e
    · rename_i c; cases e; exact ⟨big c, rfl⟩
    · cases e
  | lst l =>
    cases e
    cases q with | lst h1 h2 =>
      refine Or.inl ⟨_, Or.inl (Or.inl h1), ?_⟩
      cases h2 <;> rfl
  | tup l =>
    cases e
    cases q with | tup h1 h2 =>
      refine Or.inr (Or.inl ⟨_, h1, ?_⟩)
      cases h2 <;> rfl
  | dk ks l => cases e
  | dt ks l => cases e
  | exc c => cases e
  | scr c => cases e
def dTru (f : FD) : BD := fun r => (f r).bind fun p => (truth p.1).bind fun b => some (b, p.2)
theorem dt_tru {te : TE} {f : FD} (h : DF K te f) : DT K (fun σ H Q => te σ H fun x H' => ∃ k, TruV K x H' k ∧ Q k H') (dTru f) := fun F G H r s tm us b r' I hl e Q q => by
  obtain ⟨⟨d, r1⟩, e1, e⟩ := Option.bind_eq_some_iff.mp e
  obtain ⟨c, e3, e⟩ := Option.bind_eq_some_iff.mp e
  cases e
  exact h F G H r s tm us d r1 I hl e1 _ fun v G1 H1 x1 I1 l1 hd => ⟨b, truth_ok (Rp.sub I1.pl I1.gh _ _ hd) e3, q G1 H1 x1 I1 l1⟩
def D.bool : D → Option Bool
  | .bl b => some b
  | _ => none
theorem bool_rp {d : D} {v : V} {b : Bool} (h : Rp K G d v) (e : d.bool = some b) : v = .bl b := by
  cases d with
  | bl c => cases e; cases h; rfl
  | _ => cases e
def dBl (f : FD) : BD := fun r => (f r).bind fun p => p.1.bool.bind fun b => some (b, p.2)
theorem dt_bl {te : TE} {f : FD} (h : DF K te f) : DT K (tB te) (dBl f) := fun F G H r s tm us b r' I hl e Q q => by
  obtain ⟨⟨d, r1⟩, e1, e⟩ := Option.bind_eq_some_iff.mp e
  obtain ⟨c, e3, e⟩ := Option.bind_eq_some_iff.mp e
  cases e
  exact h F G H r s tm us d r1 I hl e1 _ fun v G1 H1 x1 I1 l1 hd => ⟨b, bool_rp hd e3, q G1 H1 x1 I1 l1⟩
def dAnd (f g : BD) : BD := fun r => (f r).bind fun p => if p.1 = true then g p.2 else some (false, p.2)
def dOr (f g : BD) : BD := fun r => (f r).bind fun p => if p.1 = true then some (true, p.2) else g p.2
def dNot (f : BD) : BD := fun r => (f r).bind fun p => some (!p.1, p.2)
theorem dt_and {t u : TT} {f g : BD} (h1 : DT K t f) (h2 : DT K u g) : DT K (tAnd t u) (dAnd f g) := fun F G H r s tm us b r' I hl e Q q => by
  obtain ⟨⟨c, r1⟩, e1, e⟩ := Option.bind_eq_some_iff.mp e
  refine h1 F G H r s tm us c r1 I hl e1 _ fun G1 H1 x1 I1 l1 => ?_
  cases c with
  | true => exact h2 F G1 H1 r1 s tm us b r' I1 l1 e Q fun G2 H2 x2 I2 l2 => q G2 H2 (x1.trans x2) I2 l2
  | false => cases e; exact q G1 H1 x1 I1 l1
theorem dt_or {t u : TT} {f g : BD} (h1 : DT K t f) (h2 : DT K u g) : DT K (tOr t u) (dOr f g) := fun F G H r s tm us b r' I hl e Q q => by
  obtain ⟨⟨c, r1⟩, e1, e⟩ := Option.bind_eq_some_iff.mp e
  refine h1 F G H r s tm us c r1 I hl e1 _ fun G1 H1 x1 I1 l1 => ?_
  cases c with
  | false => exact h2 F G1 H1 r1 s tm us b r' I1 l1 e Q fun G2 H2 x2 I2 l2 => q G2 H2 (x1.trans x2) I2 l2
  | true => cases e; exact q G1 H1 x1 I1 l1
theorem dt_not {t : TT} {f : BD} (h1 : DT K t f) : DT K (tNot t) (dNot f) := fun F G H r s tm us b r' I hl e Q q => by
  obtain ⟨⟨c, r1⟩, e1, e⟩ := Option.bind_eq_some_iff.mp e
  cases e
  exact h1 F G H r s tm us c r1 I hl e1 _ fun G1 H1 x1 I1 l1 => q G1 H1 x1 I1 l1
def dBool (f : BD) : ED := fun r => (f r).bind fun p => some (.sh (.bl p.1), p.2)
theorem de_andV {ta tb : TE} {f g : FD} (h1 : DF K ta f) (h2 : DF K tb g) : DE K (tAndV ta tb) (dBool (dAnd (dBl f) (dBl g))) := fun F G H r s tm us w r' I hl e Q q => by
  obtain ⟨⟨c, r1⟩, e1, e⟩ := Option.bind_eq_some_iff.mp e
  cases e
  obtain ⟨⟨c1, r2⟩, e2, e3⟩ := Option.bind_eq_some_iff.mp e1
  obtain ⟨⟨d, r3⟩, e4, e5⟩ := Option.bind_eq_some_iff.mp e2
  obtain ⟨c2, e6, e7⟩ := Option.bind_eq_some_iff.mp e5
  cases e7
  refine h1 F G H r s tm us d r3 I hl e4 _ fun v G1 H1 x1 I1 l1 hd => ⟨c1, bool_rp hd e6, ?_⟩
  cases c1 with
  | true =>
    obtain ⟨⟨d', r4⟩, e8, e9⟩ := Option.bind_eq_some_iff.mp (show dBl g _ = some _ from e3)
    obtain ⟨c3, e10, e11⟩ := Option.bind_eq_some_iff.mp e9
    cases e11
    exact h2 F G1 H1 r3 s tm us d' r4 I1 l1 e8 Q fun v2 G2 H2 x2 I2 l2 hd2 => q v2 G2 H2 (x1.trans x2) (by simpa only [W.tm, W.vl, List.append_nil] using I2) l2 (by rw [bool_rp hd2 e10]; exact .bl c)
  | false =>
    cases e3
    exact q _ G1 H1 x1 (by simpa only [W.tm, W.vl, List.append_nil] using I1) l1 (.bl false)
theorem de_orV {ta tb : TE} {f g : FD} (h1 : DF K ta f) (h2 : DF K tb g) : DE K (tOrV ta tb) (dBool (dOr (dBl f) (dBl g))) := fun F G H r s tm us w r' I hl e Q q => by
  obtain ⟨⟨c, r1⟩, e1, e⟩ := Option.bind_eq_some_iff.mp e
  cases e
  obtain ⟨⟨c1, r2⟩, e2, e3⟩ := Option.bind_eq_some_iff.mp e1
  obtain ⟨⟨d, r3⟩, e4, e5⟩ := Option.bind_eq_some_iff.mp e2
  obtain ⟨c2, e6, e7⟩ := Option.bind_eq_some_iff.mp e5
  cases e7
  refine h1 F G H r s tm us d r3 I hl e4 _ fun v G1 H1 x1 I1 l1 hd => ⟨c1, bool_rp hd e6, ?_⟩
  cases c1 with
  | false =>
    obtain ⟨⟨d', r4⟩, e8, e9⟩ := Option.bind_eq_some_iff.mp (show dBl g _ = some _ from e3)
    obtain ⟨c3, e10, e11⟩ := Option.bind_eq_some_iff.mp e9
    cases e11
    exact h2 F G1 H1 r3 s tm us d' r4 I1 l1 e8 Q fun v2 G2 H2 x2 I2 l2 hd2 => q v2 G2 H2 (x1.trans x2) (by simpa only [W.tm, W.vl, List.append_nil] using I2) l2 (by rw [bool_rp hd2 e10]; exact .bl c)
  | true => cases e3; exact q _ G1 H1 x1 (by simpa only [W.tm, W.vl, List.append_nil] using I1) l1 (.bl true)
theorem de_notV {ta : TE} {f : FD} (h1 : DF K ta f) : DE K (tNotV ta) (dBool (dNot (dBl f))) := fun F G H r s tm us w r' I hl e Q q => by
  obtain ⟨⟨c, r1⟩, e1, e⟩ := Option.bind_eq_some_iff.mp e
  cases e
  obtain ⟨⟨c1, r2⟩, e2, e3⟩ := Option.bind_eq_some_iff.mp e1
  cases e3
  obtain ⟨⟨d, r3⟩, e4, e5⟩ := Option.bind_eq_some_iff.mp e2
  obtain ⟨c2, e6, e7⟩ := Option.bind_eq_some_iff.mp e5
  cases e7
  exact h1 F G H r s tm us d r3 I hl e4 _ fun v G1 H1 x1 I1 l1 hd => ⟨c1, bool_rp hd e6, q _ G1 H1 x1 (by simpa only [W.tm, W.vl, List.append_nil] using I1) l1 (.bl _)⟩
def dIfE (c : BD) (f g : ED) : ED := fun r => (c r).bind fun p => if p.1 = true then f p.2 else g p.2
theorem de_if {t : TT} {ta tb : TE} {c : BD} {f g : ED} (hc : DT K t c) (h1 : DE K ta f) (h2 : DE K tb g) : DE K (tIf t ta tb) (dIfE c f g) := fun F G H r s tm us w r' I hl e Q q => by
  obtain ⟨⟨k, r1⟩, e1, e⟩ := Option.bind_eq_some_iff.mp e
  refine hc F G H r s tm us k r1 I hl e1 _ fun G1 H1 x1 I1 l1 => ?_
  cases k with
  | true => exact h1 F G1 H1 r1 s tm us w r' I1 l1 e Q fun v G2 H2 x2 I2 l2 hw => q v G2 H2 (x1.trans x2) I2 l2 hw
  | false => exact h2 F G1 H1 r1 s tm us w r' I1 l1 e Q fun v G2 H2 x2 I2 l2 hw => q v G2 H2 (x1.trans x2) I2 l2 hw
/-! ### looked at only: nothing of the frame is shared for good -/
def T.frz (t : T) : T := match t.data with
  | some d => .fz d
  | none => .un
def D.scal : D → Bool
  | .non => true
  | .bl _ => true
  | .int _ => true
  | .str _ => true
  | _ => false
theorem scal_rp {d : D} {v : V} (h : Rp K G d v) (e : d.scal = true) : Rp K G' d v := by
  cases h with
  | non => exact .non
  | bl b => exact .bl b
  | int i => exact .int i
  | str z => exact .str z
  | _ => cases e
theorem RtL.iced {x : List (Option V)} (e : Ex G G') : ∀ {t : List T} {x : List (Option V)} {f : Fp}, RtL K G H t x f → (∀ b o, f b → H b = some o → (∀ q u, o ≠ .frz q u) → G' b = some o) → RtL K G' H (t.map T.frz) x (fun _ => False) := by
  intro t
  induction t with
  | nil => intro x f h k; cases h; exact .nil
  | cons t ts ih =>
    intro x f h k
    cases h with | cons a1 a2 a3 a4 a5 =>
      refine .cons (g := fun _ => False) (h := fun _ => False) ?_ (ih a2 fun b o hb => k b o (a4 b hb)) (fun b hb => hb) (fun b hb => hb) (fun b hb => hb.elim)
      unfold T.frz
      cases hd : t.data with
      | none => exact .un
      | some d =>
        obtain ⟨v, rfl, q⟩ := Rt.ice' e _ _ _ a1 (fun b o hb => k b o (a3 b hb)) d hd
        exact .fz q
theorem SI.look (I : SI K F G H r x) {x : List (Option V)} (I : SI K F G H r x) : ∃ F' G', Ex G G' ∧ SI K F' G' H (r.map T.frz) x ∧ ∀ G1 H1 r1 x1, SI K F' G1 H1 r1 x1 → SI K F G H1 r x := by
  obtain ⟨f, hr, hf⟩ := I.own
  have eg : Ex G (mix G f H) := fun b o hb => by
    rw [mix_out fun z => by rw [(hf b z).1] at hb; cases hb]
    exact hb
  refine ⟨⟨H, mix G f H, fun _ => False⟩, mix G f H, eg, ⟨⟨fun _ => False, hr.iced (x := x) eg (fun b o hb => mix_in hb), fun b hb => hb.elim⟩, fun a o e _ => e, fun a c => c.elim, Ex.refl _, fun b o hb => ?_, trivial, fun a o e => Or.inl e⟩, fun G1 H1 r1 x1 J => ?_⟩
  · rcases mix_cases hb with ⟨_, q, _⟩ | q
    · exact Or.inl q
    · exact I.gh b o q
  · have kp : ∀ a o, H a = some o → H1 a = some o := fun a o e => J.keep a o e (fun z => z)
    have ne : ∀ a, H a ≠ none → H1 a = H a := fun a h => by
      cases e : H a with
      | none => exact absurd e h
      | some o => exact kp a o e
    refine I.next f hf (Ex.refl G) (fun a o e => ?_) I.pl (fun a o e _ => kp a o e) (fun a h => by rw [ne a h]; exact h) (fun a o e => Or.inl e) (hr.frame (Ex.refl G) fun b hb => ne b (hf b hb).2.1) (fun b hb => ⟨(hf b hb).1, by rw [ne b (hf b hb).2.1]; exact (hf b hb).2.1, Or.inl hb⟩)
    rcases I.gh a o e with q | ⟨z, o', q⟩
    · exact Or.inl (kp a _ q)
    · exact Or.inr ⟨z, o', kp a _ q⟩
def dScal (f : FD) : FD := fun r => (f (r.map T.frz)).bind fun p => if p.1.scal = true then some (p.1, r) else none
theorem df_scal {te : TE} {f : FD} (h : DF K te f) : DF K te (dScal f) := fun F G H r s tm us d r' I hl e Q q => by
  obtain ⟨⟨d1, r1⟩, e1, e⟩ := Option.bind_eq_some_iff.mp e
  split at e
  · rename_i c
    cases e
    obtain ⟨F', G', xg, J, back⟩ := I.look I
    rw [List.map_append] at J
    exact h F' G' H (r.map T.frz) s (tm.map T.frz) us d1 r1 J (by rw [List.length_map]; exact hl) e1 _ fun v G1 H1 x1 I1 l1 hd => q v G H1 (Ex.refl G) (back _ _ _ _ I1) hl (scal_rp hd c)
  · cases e
def dScalT (f : BD) : BD := fun r => (f (r.map T.frz)).bind fun p => some (p.1, r)
theorem dt_scal {te : TT} {f : BD} (h : DT K te f) : DT K te (dScalT f) := fun F G H r s tm us d r' I hl e Q q => by
  obtain ⟨⟨d1, r1⟩, e1, e⟩ := Option.bind_eq_some_iff.mp e
  cases e
  obtain ⟨F', G', xg, J, back⟩ := I.look I
  rw [List.map_append] at J
  exact h F' G' H (r.map T.frz) s (tm.map T.frz) us d1 r1 J (by rw [List.length_map]; exact hl) e1 _ fun G1 H1 x1 I1 l1 => q G H1 (Ex.refl G) (back _ _ _ _ I1) hl
end
end Q

set_option Elab.async false
set_option linter.all false
set_option maxRecDepth 100000
set_option maxHeartbeats 2000000
namespace Q
open PySem PySem.Spec PyProof.Rows L2
/-! ### statements -/
inductive O where
  | nx (r : Env) | rt (w : W) (r : Env) | bk (r : Env) | ct (r : Env) | ex (c : Addr) (r : Env)
abbrev SD := Env → Option O
def Par (P : Nat → Option (Option V)) (s : L2.St) : Prop := ∀ i v, P i = some v → s[i]? = some v
def OOk (K : PySem.W.Frag) (F : Fx) (P : Nat → Option (Option V)) (X : WX) (G : Hp) (E : Ends) : O → Prop
  | .nx r => ∀ s' G' H', Ex G G' → SI K F G' H' r s' → Par P s' → E.nx s' H'
  | .rt w r => ∀ v s' G' H', Ex G G' → SI K F G' H' (r ++ w.tm) (s' ++ w.vl v) → r.length = s'.length → WV K G' s' w v → Par P s' → E.rt v H'
  | .bk r => ∀ s' G' H', Ex G G' → SI K F G' H' r s' → Par P s' → E.bk s' H'
  | .ct r => ∀ s' G' H', Ex G G' → SI K F G' H' r s' → Par P s' → E.ct s' H'
  | .ex c r => ∀ s' G' H', Ex G G' → SI K F G' H' r s' → Par P s' → X (.ref c) none s' H'
def DS (K : PySem.W.Frag) (A : Nat → Bool) (X : WX) (ts : TS) (g : SD) : Prop := ∀ F P G H r s o, (∀ i, A i = true → P i = none) → SI K F G H r s → Par P s → g r = some o → ∀ E : Ends, OOk K F P X G E o → ts E s H
abbrev XD := Env → Option (Sum W Addr × Env)
def XOk (K : PySem.W.Frag) (F : Fx) (X : WX) (G : Hp) (s : L2.St) (r' : Env) (Q : VK) : Sum W Addr → Prop
  | .inl w => ∀ v G' H', Ex G G' → SI K F G' H' (r' ++ w.tm) (s ++ w.vl v) → r'.length = s.length → WV K G' s w v → Q v H'
  | .inr c => ∀ G' H', Ex G G' → SI K F G' H' r' s → X (.ref c) none s H'
def DX (K : PySem.W.Frag) (X : WX) (te : TE) (f : XD) : Prop := ∀ F G H r s z r', SI K F G H r s → f r = some (z, r') → ∀ Q : VK, XOk K F X G s r' Q z → te s H Q
abbrev XB := Env → Option (Sum Bool Addr × Env)
def DTX (K : PySem.W.Frag) (X : WX) (tt : TT) (f : XB) : Prop := ∀ F G H r s z r', SI K F G H r s → f r = some (z, r') → ∀ Q : Bool → Hp → Prop,
  (match z with
    | .inl b => ∀ G' H', Ex G G' → SI K F G' H' r' s → Q b H'
    | .inr c => ∀ G' H', Ex G G' → SI K F G' H' r' s → X (.ref c) none s H') → tt s H Q
section
variable {K : PySem.W.Frag} {A : Nat → Bool} {X : WX}
theorem OOk.mono {F : Fx} {P : Nat → Option (Option V)} {G G' : Hp} {E : Ends} {o : O} (x : Ex G G') (h : OOk K F P X G E o) : OOk K F P X G' E o := by
  cases o with
  | nx r => exact fun s' G2 H2 x2 => h s' G2 H2 (x.trans x2)
  | rt w r => exact fun v s' G2 H2 x2 => h v s' G2 H2 (x.trans x2)
  | bk r => exact fun s' G2 H2 x2 => h s' G2 H2 (x.trans x2)
  | ct r => exact fun s' G2 H2 x2 => h s' G2 H2 (x.trans x2)
  | ex c r => exact fun s' G2 H2 x2 => h s' G2 H2 (x.trans x2)
def xLift (f : ED) : XD := fun r => (f r).bind fun p => some (.inl p.1, p.2)
theorem dx_of {te : TE} {f : ED} (h : DE K te f) : DX K X te (xLift f) := fun F G H r s z r' I e Q q => by
  obtain ⟨⟨w, r1⟩, e1, e⟩ := Option.bind_eq_some_iff.mp e
  cases e
  exact h F G H r s [] [] w r1 (by simpa only [List.append_nil] using I) I.len e1 Q fun v G' H' x1 I1 l1 hw => q v G' H' x1 (by simpa only [List.nil_append] using I1) l1 hw
def xbLift (f : BD) : XB := fun r => (f r).bind fun p => some (.inl p.1, p.2)
theorem dtx_of {te : TT} {f : BD} (h : DT K te f) : DTX K X te (xbLift f) := fun F G H r s z r' I e Q q => by
  obtain ⟨⟨w, r1⟩, e1, e⟩ := Option.bind_eq_some_iff.mp e
  cases e
  exact h F G H r s [] [] w r1 (by simpa only [List.append_nil] using I) I.len e1 Q fun G' H' x1 I1 l1 => q G' H' x1 (by simpa only [List.append_nil] using I1)
def xBl (f : XD) : XB := fun r => (f r).bind fun p => match p.1 with
  | .inl w => (share p.2 w).bind fun q => q.1.bool.bind fun b => some (.inl b, q.2)
  | .inr c => some (.inr c, p.2)
theorem dtx_bl {te : TE} {f : XD} (h : DX K X te f) : DTX K X (tB te) (xBl f) := fun F G H r s z r' I e Q q => by
  obtain ⟨⟨z1, r1⟩, e1, e⟩ := Option.bind_eq_some_iff.mp e
  cases z1 with
  | inl w =>
    obtain ⟨⟨d, r2⟩, e2, e⟩ := Option.bind_eq_some_iff.mp e
    obtain ⟨b, e3, e⟩ := Option.bind_eq_some_iff.mp e
    cases e
    refine h F G H r s (.inl w) r1 I e1 _ fun v G1 H1 x1 I1 l1 hw => ?_
    obtain ⟨G2, x2, I2, l2, q2⟩ := share_ok (tm := []) (us := []) (by simpa only [List.nil_append] using I1) l1 hw e2
    exact ⟨b, bool_rp q2 e3, q G2 H1 (x1.trans x2) (by simpa only [List.append_nil] using I2)⟩
  | inr c =>
    cases e
    exact h F G H r s (.inr c) _ I e1 _ q
def xNot (f : XB) : XB := fun r => (f r).bind fun p => match p.1 with
  | .inl b => some (.inl (!b), p.2)
  | .inr c => some (.inr c, p.2)
theorem dtx_not {te : TT} {f : XB} (h : DTX K X te f) : DTX K X (tNot te) (xNot f) := fun F G H r s z r' I e Q q => by
  obtain ⟨⟨z1, r1⟩, e1, e⟩ := Option.bind_eq_some_iff.mp e
  cases z1 with
  | inl b => cases e; exact h F G H r s (.inl b) _ I e1 _ q
  | inr c => cases e; exact h F G H r s (.inr c) _ I e1 _ q
def dNext : SD := fun r => some (.nx r)
def dSeq (g h : SD) : SD := fun r => (g r).bind fun o => match o with
  | .nx r1 => h r1
  | .rt w r1 => some (.rt w r1)
  | .bk r1 => some (.bk r1)
  | .ct r1 => some (.ct r1)
  | .ex c r1 => some (.ex c r1)
theorem ds_next : DS K A X tNext dNext := fun F P G H r s o a I p e E q => by
  cases e
  exact q s G H (Ex.refl G) I p
theorem ds_seq {t u : TS} {g h : SD} (h1 : DS K A X t g) (h2 : DS K A X u h) : DS K A X (tSeq t u) (dSeq g h) := fun F P G H r s o a I p e E q => by
  obtain ⟨o1, e1, e⟩ := Option.bind_eq_some_iff.mp e
  refine h1 F P G H r s o1 a I p e1 _ ?_
  cases o1 with
  | nx r1 => exact fun s' G' H' x I1 p1 => h2 F P G' H' r1 s' o a I1 p1 e E (q.mono x)
  | rt w r1 => cases e; exact q
  | bk r1 => cases e; exact q
  | ct r1 => cases e; exact q
  | ex c r1 => cases e; exact q
def dIf (c : XB) (g h : SD) : SD := fun r => (c r).bind fun p => match p.1 with
  | .inl true => g p.2
  | .inl false => h p.2
  | .inr c => some (.ex c p.2)
theorem ds_if {c : TT} {t u : TS} {b : XB} {g h : SD} (hc : DTX K X c b) (h1 : DS K A X t g) (h2 : DS K A X u h) : DS K A X (tIfS c t u) (dIf b g h) := fun F P G H r s o a I p e E q => by
  obtain ⟨⟨k, r1⟩, e1, e⟩ := Option.bind_eq_some_iff.mp e
  cases k with
  | inl k =>
    refine hc F G H r s (.inl k) r1 I e1 _ fun G1 H1 x1 I1 => ?_
    cases k with
    | true => exact h1 F P G1 H1 r1 s o a I1 p e E (q.mono x1)
    | false => exact h2 F P G1 H1 r1 s o a I1 p e E (q.mono x1)
  | inr c =>
    cases e
    exact hc F G H r s (.inr c) r1 I e1 _ fun G1 H1 x1 I1 => q s G1 H1 x1 I1 p
def dRet (f : XD) : SD := fun r => (f r).bind fun p => match p.1 with
  | .inl w => some (.rt w p.2)
  | .inr c => some (.ex c p.2)
theorem ds_ret {te : TE} {f : XD} (h : DX K X te f) : DS K A X (tRet te) (dRet f) := fun F P G H r s o a I p e E q => by
  obtain ⟨⟨z, r1⟩, e1, e⟩ := Option.bind_eq_some_iff.mp e
  cases z with
  | inl w => cases e; exact h F G H r s (.inl w) r1 I e1 _ fun v G1 H1 x1 I1 l1 hw => q v s G1 H1 x1 I1 l1 hw p
  | inr c => cases e; exact h F G H r s (.inr c) r1 I e1 _ fun G1 H1 x1 I1 => q s G1 H1 x1 I1 p
def dDrop (f : XD) : SD := fun r => (f r).bind fun p => match p.1 with
  | .inl _ => some (.nx p.2)
  | .inr c => some (.ex c p.2)
theorem ds_drop {te : TE} {f : XD} (h : DX K X te f) : DS K A X (tDrop te) (dDrop f) := fun F P G H r s o a I p e E q => by
  obtain ⟨⟨z, r1⟩, e1, e⟩ := Option.bind_eq_some_iff.mp e
  cases z with
  | inl w => cases e; exact h F G H r s (.inl w) r1 I e1 _ fun v G1 H1 x1 I1 l1 hw => q s G1 H1 x1 (I1.drop l1) p
  | inr c => cases e; exact h F G H r s (.inr c) r1 I e1 _ fun G1 H1 x1 I1 => q s G1 H1 x1 I1 p
def dBrk : SD := fun r => some (.bk r)
def dCnt : SD := fun r => some (.ct r)
theorem ds_brk : DS K A X tBreak dBrk := fun F P G H r s o a I p e E q => by
  cases e
  exact q s G H (Ex.refl G) I p
theorem ds_cnt : DS K A X tCont dCnt := fun F P G H r s o a I p e E q => by
  cases e
  exact q s G H (Ex.refl G) I p
def dNever : SD := fun _ => none
theorem ds_never : DS K A X tNever dNever := fun F P G H r s o a I p e E q => by cases e
def dRaise (c : Addr) : SD := fun r => some (.ex c r)
theorem ds_raise {c : Addr} : DS K A X (fun _ σ H => X (.ref c) none σ H) (dRaise c) := fun F P G H r s o a I p e E q => by
  cases e
  exact q s G H (Ex.refl G) I p
/-! ### targets -/
abbrev GD := Env → T → Option Env
abbrev GDs := Env → List T → Option Env
def DG (K : PySem.W.Frag) (A : Nat → Bool) (g : TG) (h : GD) : Prop := ∀ F P G H r s t v tm us r', (∀ i, A i = true → P i = none) → SI K F G H (r ++ t :: tm) (s ++ some v :: us) → r.length = s.length → Par P s → h r t = some r' → ∀ Q : L2.St → Hp → Prop, (∀ s' G' H', Ex G G' → SI K F G' H' (r' ++ tm) (s' ++ us) → r'.length = s'.length → s'.length = s.length → Par P s' → Q s' H') → g v s H Q
def DGs (K : PySem.W.Frag) (A : Nat → Bool) (g : TGs) (h : GDs) : Prop := ∀ F P G H r s ts vs tm us r', (∀ i, A i = true → P i = none) → SI K F G H (r ++ (ts ++ tm)) (s ++ ((vs : List V).map some ++ us)) → r.length = s.length → ts.length = vs.length → Par P s → h r ts = some r' → ∀ Q : L2.St → Hp → Prop, (∀ s' G' H', Ex G G' → SI K F G' H' (r' ++ tm) (s' ++ us) → r'.length = s'.length → s'.length = s.length → Par P s' → Q s' H') → g vs s H Q
theorem Par.set {P : Nat → Option (Option V)} {s : L2.St} (p : Par P s) {i : Nat} {x : Option V} (h : P i = none) : Par P (s.set i x) := fun j v e => by
  have : i ≠ j := fun z => by subst z; rw [h] at e; cases e
  rw [List.getElem?_set_ne this]
  exact p j v e
theorem SI.into {F : Fx} {G H : Hp} {r : Env} {s : L2.St} {t : T} {y : Option V} {tm : List T} {us : List (Option V)} (I : SI K F G H (r ++ t :: tm) (s ++ y :: us)) (hl : r.length = s.length) (i : Nat) : SI K F G H (r.set i t ++ tm) (s.set i y ++ us) := by
  obtain ⟨f, hr, hf⟩ := I.own
  obtain ⟨g, h, h1, h2, h3, h4, h5⟩ := hr.split hl
  cases h2 with | @cons _ _ _ _ _ gt ht a1 a2 a3 a4 a5 =>
    by_cases c : i < r.length
    · obtain ⟨y0, g0, h0, b1, b2, b3, b4, b5, b6⟩ := h1.at (i := i) (List.getElem?_eq_getElem c)
      have k1 := b6 G H t y gt (Ex.refl G) (fun _ _ => rfl) a1 (fun b hb z => h5 b (b4 b z) (a3 b hb))
      refine I.same hf (a2.app k1 fun b hb z => hb.elim (fun q => a5 b q z) fun q => h5 b (b4 b q) (a4 b z)) fun b hb => ?_
      rcases hb with (hb | hb) | hb
      · exact h4 b (a3 b hb)
      · exact h3 b (b4 b hb)
      · exact h4 b (a4 b hb)
    · rw [List.set_eq_of_length_le (by omega), List.set_eq_of_length_le (by omega)]
      exact I.same hf (a2.app h1 fun b hb z => h5 b hb (a4 b z)) fun b hb => hb.elim (h3 b) fun z => h4 b (a4 b z)
def gdName (i : Nat) : GD := fun r t => some (r.set i t)
theorem dg_name {i : Nat} (hA : A i = true) : DG K A (gName i) (gdName i) := fun F P G H r s t v tm us r' a I hl p e Q q => by
  cases e
  exact q _ G H (Ex.refl G) (I.into hl i) (by rw [List.length_set, List.length_set]; exact hl) (by rw [List.length_set]) (p.set (a i hA))
def gdNil : GDs := fun r ts => if ts.isEmpty then some r else none
def gdCons (g : GD) (h : GDs) : GDs := fun r ts => match ts with
  | [] => none
  | t :: ts => (g r t).bind fun r1 => h r1 ts
theorem dgs_nil : DGs K A gNil gdNil := fun F P G H r s ts vs tm us r' a I hl lv p e Q q => by
  cases ts with
  | nil =>
    cases e
    cases vs with
    | nil => exact ⟨rfl, q s G H (Ex.refl G) (by simpa using I) hl rfl p⟩
    | cons _ _ => cases lv
  | cons _ _ => cases e
theorem dgs_cons {g : TG} {u : TGs} {h : GD} {h' : GDs} (h1 : DG K A g h) (h2 : DGs K A u h') : DGs K A (gCons g u) (gdCons h h') := fun F P G H r s ts vs tm us r' a I hl lv p e Q q => by
  cases ts with
  | nil => cases e
  | cons t ts =>
    cases vs with
    | nil => cases lv
    | cons v vs =>
      obtain ⟨r1, e1, e⟩ := Option.bind_eq_some_iff.mp (show (h r t).bind _ = some r' from e)
      refine ⟨_, _, rfl, ?_⟩
      exact h1 F P G H r s t v (ts ++ tm) (vs.map some ++ us) r1 a (by simpa using I) hl p e1 _ fun s1 G1 H1 x1 I1 l1 m1 p1 => h2 F P G1 H1 r1 s1 ts vs tm us r' a I1 l1 (Nat.succ.inj lv) p1 e Q fun s2 G2 H2 x2 I2 l2 m2 p2 => q s2 G2 H2 (x1.trans x2) I2 l2 (m2.trans m1) p2
def T.tupParts : T → Option (List T)
  | .tp l => some l
  | .fz (.tup l) => some (l.map .fz)
  | _ => none
def T.lstParts : T → Option (List T)
  | .ls l => some l
  | .fz (.lst l) => some (l.map .fz)
  | _ => none
theorem SI.parts {F : Fx} {G H : Hp} {r : Env} {x : List (Option V)} {t : T} {v : V} {tm : List T} {us : List (Option V)} {ps : List T} (I : SI K F G H (r ++ t :: tm) (x ++ some v :: us)) (hl : r.length = x.length) (e : t.tupParts = some ps) : ∃ a vs, v = .ref a ∧ SqT K H a vs ∧ ps.length = vs.length ∧ SI K F G H (r ++ (ps ++ tm)) (x ++ (vs.map some ++ us)) := by
  obtain ⟨f, hr, hf⟩ := I.own
  obtain ⟨g, h, h1, h2, h3, h4, h5⟩ := hr.split hl
  cases h2 with | @cons _ _ _ _ _ gt ht a1 a2 a3 a4 a5 =>
    have fin : ∀ (vs : List V) (gp : Fp), RtL K G H ps (vs.map some) gp → (∀ b, gp b → gt b) → SI K F G H (r ++ (ps ++ tm)) (x ++ (vs.map some ++ us)) := fun vs gp q w =>
      I.same hf ((a2.app q fun b hb z => a5 b (w b hb) z).app h1 fun b hb z => h5 b hb (z.elim (fun q => a3 b (w b q)) (a4 b))) fun b hb => hb.elim (h3 b) fun z => z.elim (fun q => h4 b (a3 b (w b q))) fun q => h4 b (a4 b q)
    cases t with
    | tp l =>
      cases e
      cases a1 with | tp c1 c2 c3 c4 => exact ⟨_, _, rfl, Or.inl (Or.inl c2), by have := c3.length; simpa using this, fin _ _ c3 fun b hb => (c4 b hb).1⟩
    | fz d => cases d with
      | tup l =>
        cases e
        cases a1 with | fz q => cases q with | tup c1 c2 => exact ⟨_, _, rfl, sub_t I.pl I.gh c1, by rw [List.length_map]; exact c2.length, fin _ _ (RtL.fzs c2) fun b hb => hb.elim⟩
      | _ => cases e
    | _ => cases e
theorem SI.partsL {F : Fx} {G H : Hp} {r : Env} {x : List (Option V)} {t : T} {v : V} {tm : List T} {us : List (Option V)} {ps : List T} (I : SI K F G H (r ++ t :: tm) (x ++ some v :: us)) (hl : r.length = x.length) (e : t.lstParts = some ps) : ∃ a vs, v = .ref a ∧ SqL K H a vs ∧ ps.length = vs.length ∧ SI K F G H (r ++ (ps ++ tm)) (x ++ (vs.map some ++ us)) := by
  obtain ⟨f, hr, hf⟩ := I.own
  obtain ⟨g, h, h1, h2, h3, h4, h5⟩ := hr.split hl
  cases h2 with | @cons _ _ _ _ _ gt ht a1 a2 a3 a4 a5 =>
    have fin : ∀ (vs : List V) (gp : Fp), RtL K G H ps (vs.map some) gp → (∀ b, gp b → gt b) → SI K F G H (r ++ (ps ++ tm)) (x ++ (vs.map some ++ us)) := fun vs gp q w =>
      I.same hf ((a2.app q fun b hb z => a5 b (w b hb) z).app h1 fun b hb z => h5 b hb (z.elim (fun q => a3 b (w b q)) (a4 b))) fun b hb => hb.elim (h3 b) fun z => z.elim (fun q => h4 b (a3 b (w b q))) fun q => h4 b (a4 b q)
    cases t with
    | ls l =>
      cases e
      cases a1 with | ls c1 c2 c3 c4 => exact ⟨_, _, rfl, Or.inl (Or.inl c2), by have := c3.length; simpa using this, fin _ _ c3 fun b hb => (c4 b hb).1⟩
    | fz d => cases d with
      | lst l =>
        cases e
        cases a1 with | fz q => cases q with | lst c1 c2 => exact ⟨_, _, rfl, Or.inl (Or.inl (sub_ex I.gh c1)), by rw [List.length_map]; exact c2.length, fin _ _ (RtL.fzs c2) fun b hb => hb.elim⟩
      | _ => cases e
    | _ => cases e
def gdTup (n : Nat) (h : GDs) : GD := fun r t => t.tupParts.bind fun ps => if ps.length = n then h r ps else none
def gdLst (n : Nat) (h : GDs) : GD := fun r t => t.lstParts.bind fun ps => if ps.length = n then h r ps else none
theorem dg_tup {n : Nat} {t : TGs} {h : GDs} (ht : DGs K A t h) : DG K A (gTup K n t) (gdTup n h) := fun F P G H r s t v tm us r' a I hl p e Q q => by
  obtain ⟨ps, e1, e⟩ := Option.bind_eq_some_iff.mp e
  split at e
  · rename_i c
    obtain ⟨b, vs, rfl, z1, z2, J⟩ := I.parts hl e1
    exact ⟨b, vs, rfl, z1, by omega, ht F P G H r s ps vs tm us r' a J hl z2 p e Q q⟩
  · cases e
theorem dg_lst {n : Nat} {t : TGs} {h : GDs} (ht : DGs K A t h) : DG K A (gLst K n t) (gdLst n h) := fun F P G H r s t v tm us r' a I hl p e Q q => by
  obtain ⟨ps, e1, e⟩ := Option.bind_eq_some_iff.mp e
  split at e
  · rename_i c
    obtain ⟨b, vs, rfl, z1, z2, J⟩ := I.partsL hl e1
    exact ⟨b, vs, rfl, z1, by omega, ht F P G H r s ps vs tm us r' a J hl z2 p e Q q⟩
  · cases e
/-- target = value -/
def dAsg (f : XD) (g : GD) : SD := fun r => (f r).bind fun p => match p.1 with
  | .inl w => (mv p.2 w).bind fun q => (g q.2 q.1).bind fun r2 => some (.nx r2)
  | .inr c => some (.ex c p.2)
theorem ds_asg {te : TE} {f : XD} {t : TG} {g : GD} (h : DX K X te f) (hg : DG K A t g) : DS K A X (tAsg te t) (dAsg f g) := fun F P G H r s o a I p e E q => by
  obtain ⟨⟨z, r1⟩, e1, e⟩ := Option.bind_eq_some_iff.mp e
  cases z with
  | inl w =>
    obtain ⟨⟨t1, r2⟩, e2, e⟩ := Option.bind_eq_some_iff.mp e
    obtain ⟨r3, e3, e⟩ := Option.bind_eq_some_iff.mp e
    cases e
    refine h F G H r s (.inl w) r1 I e1 _ fun v G1 H1 x1 I1 l1 hw => ?_
    obtain ⟨G2, x2, I2, l2⟩ := mv_ok (tm := []) (us := []) (by simpa only [List.nil_append] using I1) l1 hw e2
    exact hg F P G2 H1 r2 s t1 v [] [] r3 a I2 l2 p e3 _ fun s' G3 H3 x3 I3 l3 m3 p3 => q s' G3 H3 ((x1.trans x2).trans x3) (by simpa only [List.append_nil] using I3) p3
  | inr c => cases e; exact h F G H r s (.inr c) r1 I e1 _ fun G1 H1 x1 I1 => q s G1 H1 x1 I1 p

/-! ### loops -/
def WalkD (K : PySem.W.Frag) (J : It) (l : List D) (G0 : Hp) : Prop := ∀ F G H r x, Ex G0 G → SI K F G H r x → ∀ i : Nat,
  (∀ d, l[i]? = some d → J.go i H ∧ ∀ y H', J.yld i H y H' → ∃ G', Ex G G' ∧ SI K F G' H' r x ∧ Rp K G' d y) ∧ (l.length ≤ i → J.stop i H)
abbrev ID := Env → Option (List D × Env)
def DI (K : PySem.W.Frag) (wi : TI) (f : ID) : Prop := ∀ F G H r s tm us l r', SI K F G H (r ++ tm) (s ++ us) → r.length = s.length → f r = some (l, r') → ∀ R : It → Hp → Prop, (∀ J G' H', Ex G G' → SI K F G' H' (r' ++ tm) (s ++ us) → r'.length = s.length → WalkD K J l G' → R J H') → wi s H R
def loopD (h : GD) (body : SD) : List D → Env → Option O
  | [], r => some (.nx r)
  | d :: l, r => (h r (.fz d)).bind fun r1 => (body r1).bind fun o => match o with
    | .nx r2 => loopD h body l r2
    | .ct r2 => loopD h body l r2
    | .bk r2 => some (.nx r2)
    | .rt w r2 => some (.rt w r2)
    | .ex c r2 => some (.ex c r2)
def dFor (f : ID) (h : GD) (body : SD) : SD := fun r => (f r).bind fun p => loopD h body p.1 p.2
theorem ds_for {wi : TI} {g : TG} {tb : TS} {f : ID} {h : GD} {body : SD} (hi : DI K wi f) (hg : DG K A g h) (hb : DS K A X tb body) : DS K A X (tFor wi g tb) (dFor f h body) := fun F P G H r s o a I p e E q => by
  obtain ⟨⟨l, r1⟩, e1, e⟩ := Option.bind_eq_some_iff.mp e
  refine hi F G H r s [] [] l r1 (by simpa only [List.append_nil] using I) I.len e1 _ fun J G1 H1 x1 I1 l1 hJ => ?_
  refine ⟨fun i m s' H' => i ≤ l.length ∧ m = l.length - i ∧ ∃ G' r', Ex G1 G' ∧ SI K F G' H' r' s' ∧ Par P s' ∧ loopD h body (l.drop i) r' = some o, ⟨l.length, Nat.zero_le _, rfl, G1, r1, Ex.refl G1, by simpa only [List.append_nil] using I1, p, e⟩, ?_⟩
  rintro i m s' H' ⟨hi, rfl, G', r', x', I', p', e'⟩
  by_cases c : i < l.length
  · have hd : l[i]? = some l[i] := List.getElem?_eq_getElem c
    obtain ⟨go, yl⟩ := (hJ F G' H' r' s' x' I' i).1 _ hd
    rw [List.drop_eq_getElem_cons c] at e'
    obtain ⟨r2, e2, e3⟩ := Option.bind_eq_some_iff.mp (show (h r' (.fz l[i])).bind _ = some o from e')
    obtain ⟨o2, e4, e5⟩ := Option.bind_eq_some_iff.mp e3
    refine Or.inr ⟨go, fun s3 H3 => ∃ G3 r3, Ex G1 G3 ∧ SI K F G3 H3 r3 s3 ∧ Par P s3 ∧ loopD h body (l.drop (i + 1)) r3 = some o, fun s3 H3 ⟨G3, r3, x3, I3, p3, e6⟩ => ⟨l.length - (i + 1), by omega, c, rfl, G3, r3, x3, I3, p3, e6⟩, fun x H2 y => ?_⟩
    obtain ⟨G2, x2, I2, q2⟩ := yl x H2 y
    refine hg F P G2 H2 r' s' (.fz l[i]) x [] [] r2 a (by simpa using I2.fzs (l := [l[i]]) (vs := [x]) (.cons q2 .nil)) I2.len p' e2 _ fun s3 G3 H3 x3 I3 l3 m3 p3 => ?_
    have xx := (x'.trans x2).trans x3
    refine hb F P G3 H3 r2 s3 o2 a (by simpa only [List.append_nil] using I3) p3 e4 _ ?_
    cases o2 with
    | nx r4 => exact fun s4 G4 H4 x4 I4 p4 => ⟨G4, r4, xx.trans x4, I4, p4, e5⟩
    | ct r4 => exact fun s4 G4 H4 x4 I4 p4 => ⟨G4, r4, xx.trans x4, I4, p4, e5⟩
    | bk r4 => cases e5; exact fun s4 G4 H4 x4 I4 p4 => q s4 G4 H4 ((x1.trans xx).trans x4) I4 p4
    | rt w r4 => cases e5; exact fun v s4 G4 H4 x4 I4 l4 w4 p4 => q v s4 G4 H4 ((x1.trans xx).trans x4) I4 l4 w4 p4
    | ex w r4 => cases e5; exact fun s4 G4 H4 x4 I4 p4 => q s4 G4 H4 ((x1.trans xx).trans x4) I4 p4
  · have ei : i = l.length := by omega
    subst ei
    rw [List.drop_length] at e'
    cases e'
    exact Or.inl ⟨(hJ F G' H' r' s' x' I' l.length).2 (Nat.le_refl _), q s' G' H' (x1.trans x') I' p'⟩
def whileD (t : XB) (body : SD) : Nat → Env → Option O
  | 0, _ => none
  | n + 1, r => (t r).bind fun p => match p.1 with
    | .inl true => (body p.2).bind fun o => match o with
      | .nx r2 => whileD t body n r2
      | .ct r2 => whileD t body n r2
      | .bk r2 => some (.nx r2)
      | .rt w r2 => some (.rt w r2)
      | .ex c r2 => some (.ex c r2)
    | .inl false => some (.nx p.2)
    | .inr c => some (.ex c p.2)
def dWhile (n : Env → Nat) (t : XB) (body : SD) : SD := fun r => whileD t body (n r) r
theorem ds_while {n : Env → Nat} {c : TT} {tb : TS} {t : XB} {body : SD} (hc : DTX K X c t) (hb : DS K A X tb body) : DS K A X (tWhile c tb) (dWhile n t body) := fun F P G H r s o a I p e E q => by
  refine ⟨fun m s' H' => ∃ G' r', Ex G G' ∧ SI K F G' H' r' s' ∧ Par P s' ∧ whileD t body m r' = some o, ⟨n r, G, r, Ex.refl G, I, p, e⟩, ?_⟩
  rintro m s' H' ⟨G', r', x', I', p', e'⟩
  cases m with
  | zero => cases e'
  | succ m =>
    obtain ⟨⟨b, r1⟩, e1, e2⟩ := Option.bind_eq_some_iff.mp (show (t r').bind _ = some o from e')
    cases b with
    | inr c =>
      cases e2
      exact hc F G' H' r' s' (.inr c) r1 I' e1 _ fun G1 H1 x1 I1 => q s' G1 H1 (x'.trans x1) I1 p'
    | inl b =>
      refine hc F G' H' r' s' (.inl b) r1 I' e1 _ fun G1 H1 x1 I1 => ?_
      cases b with
      | false => cases e2; exact q s' G1 H1 (x'.trans x1) I1 p'
      | true =>
        obtain ⟨o2, e3, e4⟩ := Option.bind_eq_some_iff.mp (show (body r1).bind _ = some o from e2)
        refine ⟨fun s3 H3 => ∃ G3 r3, Ex G G3 ∧ SI K F G3 H3 r3 s3 ∧ Par P s3 ∧ whileD t body m r3 = some o, fun s3 H3 h3 => ⟨m, Nat.lt_succ_self m, h3⟩, ?_⟩
        have xx := x'.trans x1
        refine hb F P G1 H1 r1 s' o2 a I1 p' e3 _ ?_
        cases o2 with
        | nx r4 => exact fun s4 G4 H4 x4 I4 p4 => ⟨G4, r4, xx.trans x4, I4, p4, e4⟩
        | ct r4 => exact fun s4 G4 H4 x4 I4 p4 => ⟨G4, r4, xx.trans x4, I4, p4, e4⟩
        | bk r4 => cases e4; exact fun s4 G4 H4 x4 I4 p4 => q s4 G4 H4 (xx.trans x4) I4 p4
        | rt w r4 => cases e4; exact fun v s4 G4 H4 x4 I4 l4 w4 p4 => q v s4 G4 H4 (xx.trans x4) I4 l4 w4 p4
        | ex w r4 => cases e4; exact fun s4 G4 H4 x4 I4 p4 => q s4 G4 H4 (xx.trans x4) I4 p4
/-- over a list or a tuple -/
def dItems (f : FD) : ID := fun r => (f r).bind fun x => match x.1 with
  | .lst l => some (l, x.2)
  | .tup l => some (l, x.2)
  | _ => none
def dItemsL (f : FD) : ID := fun r => (f r).bind fun x => match x.1 with
  | .lst l => some (l, x.2)
  | _ => none
def dItemsT (f : FD) : ID := fun r => (f r).bind fun x => match x.1 with
  | .tup l => some (l, x.2)
  | _ => none
theorem walk_l {a : Addr} {l : List D} {xs : List V} {G0 : Hp} (pg : Plain G0) (h : SqL K G0 a xs) (q : RpL K G0 l xs) : WalkD K (Itl K a) l G0 := fun F G H r x xg I i => by
  have hH : SqL K H a xs := sub_l I.pl I.gh (ex_l xg h)
  refine ⟨fun d hd => ?_, fun hl => ⟨xs, hH, q.length ▸ hl⟩⟩
  obtain ⟨v, hv, hq⟩ := q.get hd
  refine ⟨⟨xs, v, hH, hv⟩, fun y H' ⟨e1, e2⟩ => ?_⟩
  subst e1
  have := e2 xs hH
  rw [hv] at this
  cases this
  exact ⟨G, Ex.refl G, I, hq.mono xg⟩
theorem walk_t {a : Addr} {l : List D} {xs : List V} {G0 : Hp} (pg : Plain G0) (h : SqT K G0 a xs) (q : RpL K G0 l xs) : WalkD K (Itt K a) l G0 := fun F G H r x xg I i => by
  have hH : SqT K H a xs := sub_t I.pl I.gh (ex_t xg h)
  refine ⟨fun d hd => ?_, fun hl => ⟨xs, hH, q.length ▸ hl⟩⟩
  obtain ⟨v, hv, hq⟩ := q.get hd
  refine ⟨⟨xs, v, hH, hv⟩, fun y H' ⟨e1, e2⟩ => ?_⟩
  subst e1
  have := e2 xs hH
  rw [hv] at this
  cases this
  exact ⟨G, Ex.refl G, I, hq.mono xg⟩
theorem di_list {te : TE} {f : FD} (h : DF K te f) : DI K (iList K te) (dItemsL f) := fun F G H r s tm us l r' I hl e R q => by
  obtain ⟨⟨d, r1⟩, e1, e⟩ := Option.bind_eq_some_iff.mp e
  cases d with
  | lst l' =>
    cases e
    refine h F G H r s tm us _ r1 I hl e1 _ fun v G1 H1 x1 I1 l1 q2 => ?_
    cases q2 with | lst h1 h2 => exact ⟨_, rfl, ⟨_, Or.inl (Or.inl (sub_ex I1.gh h1))⟩, q _ G1 H1 x1 I1 l1 (walk_l I1.pl (Or.inl (Or.inl h1)) h2)⟩
  | _ => cases e
theorem di_tup {te : TE} {f : FD} (h : DF K te f) : DI K (iTup K te) (dItemsT f) := fun F G H r s tm us l r' I hl e R q => by
  obtain ⟨⟨d, r1⟩, e1, e⟩ := Option.bind_eq_some_iff.mp e
  cases d with
  | tup l' =>
    cases e
    refine h F G H r s tm us _ r1 I hl e1 _ fun v G1 H1 x1 I1 l1 q2 => ?_
    cases q2 with | tup h1 h2 => exact ⟨_, rfl, ⟨_, sub_t I1.pl I1.gh h1⟩, q _ G1 H1 x1 I1 l1 (walk_t I1.pl h1 h2)⟩
  | _ => cases e
def upto (lo : Int) (n : Nat) : List D := (List.range n).map fun (i : Nat) => .int (lo + (i : Int))
theorem walk_r {lo : Int} {n : Nat} {G0 : Hp} : WalkD K (Itr lo n) (upto lo n) G0 := fun F G H r x xg I i => by
  unfold upto
  refine ⟨fun d hd => ?_, fun hl => by rw [List.length_map, List.length_range] at hl; exact hl⟩
  rw [List.getElem?_map] at hd
  by_cases c : i < n
  · rw [List.getElem?_range c] at hd
    cases hd
    refine ⟨c, fun y H' ⟨e1, e2⟩ => ?_⟩
    subst e1 e2
    exact ⟨G, Ex.refl G, I, .int _⟩
  · rw [List.getElem?_eq_none (by rw [List.length_range]; omega)] at hd
    cases hd
def dRange1 (f : FDs) : ID := fun r => (f r).bind fun p => match p.1 with
  | [.int j] => if -(2 ^ 62) ≤ j ∧ j < 2 ^ 62 then some (upto 0 j.toNat, p.2) else none
  | _ => none
def dRange2 (f : FDs) : ID := fun r => (f r).bind fun p => match p.1 with
  | [.int i, .int j] => if -(2 ^ 62) ≤ i ∧ i < 2 ^ 62 ∧ -(2 ^ 62) ≤ j ∧ j < 2 ^ 62 then some (upto i (j - i).toNat, p.2) else none
  | _ => none
theorem di_range1 {ta : TA} {f : FDs} (h : DFs K ta f) : DI K (iRng1 ta) (dRange1 f) := fun F G H r s tm us l r' I hl e R q => by
  obtain ⟨⟨ds, r1⟩, e1, e⟩ := Option.bind_eq_some_iff.mp e
  dsimp only at e
  split at e
  · rename_i j
    split at e
    · rename_i c
      cases e
      refine h F G H r s tm us _ _ I hl e1 _ fun vs G1 H1 x1 I1 l1 hv => ?_
      cases hv with | cons h1 h2 =>
        cases h2
        cases h1
        exact ⟨j, rfl, c.1, c.2, q _ G1 H1 x1 I1 l1 walk_r⟩
    · cases e
  · cases e
theorem di_range2 {ta : TA} {f : FDs} (h : DFs K ta f) : DI K (iRng2 ta) (dRange2 f) := fun F G H r s tm us l r' I hl e R q => by
  obtain ⟨⟨ds, r1⟩, e1, e⟩ := Option.bind_eq_some_iff.mp e
  dsimp only at e
  split at e
  · rename_i i j
    split at e
    · rename_i c
      cases e
      refine h F G H r s tm us _ _ I hl e1 _ fun vs G1 H1 x1 I1 l1 hv => ?_
      cases hv with | cons h1 h2 => cases h2 with | cons h2 h3 =>
        cases h3
        cases h1
        cases h2
        exact ⟨i, j, rfl, c, q _ G1 H1 x1 I1 l1 walk_r⟩
    · cases e
  · cases e
end
end Q

set_option Elab.async false
set_option linter.all false
set_option maxRecDepth 100000
set_option maxHeartbeats 2000000
namespace Q
open PySem PySem.Spec PyProof.Rows L2
/-! ### defs -/
inductive Res where
  | ret (t : T) | exc (c : Addr)
abbrev FnT := List T → Option (Res × List T)
structure Entry (K : PySem.W.Frag) (G H : Hp) (ps : List T) (vs : List V) (f : Fp) : Prop where
  rt : RtL K G H ps (vs.map some) f
  fo : ∀ b, f b → G b = none ∧ H b ≠ none
  gh : Sub G H
  pl : Plain G
structure End (K : PySem.W.Frag) (G H : Hp) (f : Fp) (ts : List T) (xs : List (Option V)) (G' H' : Hp) : Prop where
  gg : Ex G G'
  gh : Sub G' H'
  pl : Plain G'
  keep : ∀ a o, H a = some o → ¬ f a → H' a = some o
  lv : ∀ a, H a ≠ none → H' a ≠ none
  gn : ∀ a o, G' a = some o → G a = some o ∨ f a ∨ H a = none
  rt : ∃ f' : Fp, RtL K G' H' ts xs f' ∧ ∀ b, f' b → G' b = none ∧ H' b ≠ none ∧ (f b ∨ H b = none)
def ResOk (K : PySem.W.Frag) (G H : Hp) (f : Fp) (vs : List V) (ps' : List T) (Q : VK) (E : XK) : Res → Prop
  | .ret t => ∀ v G' H', End K G H f (ps' ++ [t]) (vs.map some ++ [some v]) G' H' → Q v H'
  | .exc c => ∀ G' H', End K G H f ps' (vs.map some) G' H' → E (.ref c) none H'
def spD (K : PySem.W.Frag) (n : Nat) (fn : FnT) : Sp := fun vs H Q E => vs.length = n ∧ ∃ G f ps z ps', fn ps = some (z, ps') ∧ Entry K G H ps vs f ∧ ResOk K G H f vs ps' Q E z
def keepP : T → T
  | .fz d => .fz d
  | _ => .un
def outP : List Bool → List T → Env → List T
  | b :: fx, p :: ps, t :: r => (if b = true then t else keepP p) :: outP fx ps r
  | _, _, _ => []
def retW (n : Nat) (r : Env) : W → Option (T × Env)
  | .sh d => some (.fz d, r)
  | .nw t => some (t, r)
  | .pl i => if i < n then (share r (.pl i)).bind fun p => some (.fz p.1, p.2) else match r[i]? with
    | some .un => none
    | none => none
    | some t => some (t, r.set i .un)
def fnD (n N : Nat) (fx : List Bool) (body : SD) : FnT := fun ps => if ps.length = n then (body (ps ++ List.replicate (N - n) .un)).bind fun o => match o with
    | .nx r => if n ≤ r.length then some (.ret (.fz .non), outP fx ps r) else none
    | .rt w r => (retW n r w).bind fun p => if n ≤ p.2.length then some (.ret p.1, outP fx ps p.2) else none
    | .ex c r => if n ≤ r.length then some (.exc c, outP fx ps r) else none
    | _ => none
  else none
section
variable {K : PySem.W.Frag}
theorem SI.moved {F : Fx} {G H : Hp} {r : Env} {s : L2.St} {tm : List T} {us : List (Option V)} {i : Nat} {t : T} {v : V} (I : SI K F G H (r ++ tm) (s ++ us)) (hl : r.length = s.length) (n : r[i]? = some t) (hv : s[i]? = some (some v)) : SI K F G H (r.set i .un ++ (tm ++ [t])) (s ++ (us ++ [some v])) := by
  have hi : i < r.length := (List.getElem?_eq_some_iff.mp n).1
  obtain ⟨f, hr, hf⟩ := I.own
  obtain ⟨y, g, h, b1, b2, b3, b4, b5, b6⟩ := hr.at (i := i) (by rw [List.getElem?_append_left hi]; exact n)
  have k1 := b6 G H .un y (fun _ => False) (Ex.refl G) (fun _ _ => rfl) .un (fun b hb => hb.elim)
  rw [set_same b1, List.set_append_left _ _ hi] at k1
  rw [List.getElem?_append_left (by omega), hv] at b1
  cases b1
  have k2 : RtL K G H [t] [some v] g := .cons b2 (h := fun _ => False) .nil (fun b hb => hb) (fun b hb => hb.elim) (fun b _ z => z)
  have k3 := k2.app k1 (fun b hb z => hb.elim (fun q => q) fun q => b5 b z q)
  simp only [← List.append_assoc]
  exact I.same hf k3 fun b hb => hb.elim (fun z => z.elim (fun q => q.elim) (b4 b)) (b3 b)
theorem keepP_rt {G G' H H' : Hp} {t : T} {x : Option V} {f g : Fp} (h : Rt K G H t x f) (e : Ex G G') : Rt K G' H' (keepP t) x g := by
  cases h with
  | fz q => exact .fz (q.mono e)
  | _ => exact .un
theorem outP_ok {G G' H H' : Hp} (e : Ex G G') : ∀ {fx : List Bool} {ps : List T} {vs : List V} {f f' : Fp} {r : Env} {s : L2.St}, fx.length = ps.length → ps.length ≤ r.length → RtL K G H ps (vs.map some) f → RtL K G' H' r s f' → (∀ (j : Nat) (v : V), fx[j]? = some true → vs[j]? = some v → s[j]? = some (some v)) → RtL K G' H' (outP fx ps r) (vs.map some) f' := by
  intro fx
  induction fx with
  | nil =>
    intro ps vs f f' r s l1 l2 h1 h2 hp
    cases ps with
    | nil => cases vs with
      | nil => exact .nil
      | cons _ _ => cases h1
    | cons _ _ => cases l1
  | cons b fx ih =>
    intro ps vs f f' r s l1 l2 h1 h2 hp
    cases ps with
    | nil => cases l1
    | cons p ps =>
      cases r with
      | nil => cases l2
      | cons t r =>
        cases vs with
        | nil => cases h1
        | cons v vs =>
          cases h1 with | cons a1 a2 a3 a4 a5 =>
            cases h2 with | @cons _ x _ xs _ g h b1 b2 b3 b4 b5 =>
              have rest := ih (Nat.succ.inj l1) (Nat.le_of_succ_le_succ l2) a2 b2 fun j v e1 e2 => by simpa using hp (j + 1) v (by simpa using e1) (by simpa using e2)
              refine .cons (g := g) (h := h) ?_ rest b3 b4 b5
              cases b with
              | true =>
                have := hp 0 v rfl rfl
                simp at this
                subst this
                exact b1
              | false => exact keepP_rt a1 e
theorem start_get {N : List Str} {vs : List V} {i : Nat} {v : V} (e : vs[i]? = some v) : (L2.start N vs)[i]? = some (some v) := by
  unfold L2.start
  have hi : i < vs.length := (List.getElem?_eq_some_iff.mp e).1
  rw [List.getElem?_append_left (by rw [List.length_map]; exact hi), List.getElem?_map, e]
  rfl
theorem RtL.uns {G H : Hp} : ∀ {n : Nat} {x : List (Option V)}, x.length = n → RtL K G H (List.replicate n .un) x (fun _ => False) := by
  intro n
  induction n with
  | zero => intro x h; cases x with
    | nil => exact .nil
    | cons _ _ => cases h
  | succ n ih => intro x h; cases x with
    | nil => cases h
    | cons x xs => exact .cons (g := fun _ => False) .un (ih (Nat.succ.inj h)) (fun b hb => hb) (fun b hb => hb) (fun b hb => hb.elim)
theorem entry_si {G H : Hp} {ps : List T} {vs : List V} {N : List Str} {f : Fp} (E : Entry K G H ps vs f) (hN : vs.length ≤ N.length) : SI K ⟨H, G, f⟩ G H (ps ++ List.replicate (N.length - ps.length) .un) (L2.start N vs) := by
  have hl := E.rt.length
  rw [List.length_map] at hl
  refine ⟨⟨_, (RtL.uns (K := K) (G := G) (H := H) (n := N.length - ps.length) (x := List.replicate (N.length - vs.length) none) (by rw [List.length_replicate, hl])).app E.rt (fun b _ z => z), fun b hb => ?_⟩, fun a o e _ => e, fun a c => (E.fo a c).2, Ex.refl G, E.gh, E.pl, fun a o e => Or.inl e⟩
  rcases hb with z | z
  · exact ⟨(E.fo b z).1, (E.fo b z).2, Or.inr z⟩
  · exact z.elim
theorem si_end {G H G' H' : Hp} {f : Fp} {ts : List T} {xs : List (Option V)} {r : Env} {x : List (Option V)} (I : SI K ⟨H, G, f⟩ G' H' r x) (lv : ∀ a, H a ≠ none → H' a ≠ none) {f' g : Fp} (hr : RtL K G' H' r x g) (hg : Own ⟨H, G, f⟩ G' H' g) (ht : RtL K G' H' ts xs f') (w : ∀ b, f' b → g b) : End K G H f ts xs G' H' := by
  refine ⟨I.g0, I.gh, I.pl, fun a o e c => I.keep a o e c, lv, fun a o e => ?_, f', ht, fun b hb => ?_⟩
  · rcases I.gn a o e with q | q | q
    · exact Or.inl q
    · exact Or.inr (Or.inr q)
    · exact Or.inr (Or.inl q)
  · obtain ⟨z1, z2, z3⟩ := hg b (w b hb)
    exact ⟨z1, z2, z3.elim Or.inr Or.inl⟩
theorem SI.lv {F : Fx} {G H : Hp} {r : Env} {x : List (Option V)} (I : SI K F G H r x) : ∀ a, F.B a ≠ none → H a ≠ none := fun a h z => by
  exact h (I.Bnone z)
theorem fnD_run {g : SD} {t : TS} {n : Nat} {N : List Str} {fx : List Bool} {G H : Hp} {ps ps' : List T} {vs : List V} {z : Res} {Q : VK} {E : XK} {f : Fp} (hd : DS K (fun i => !(fx[i]? == some true)) (fun c d _ H => E c d H) t g) (hN : n ≤ N.length) (hfx : fx.length = n) (hv : vs.length = n) (e : fnD n N.length fx g ps = some (z, ps')) (En : Entry K G H ps vs f) (q : ResOk K G H f vs ps' Q E z) :
    t { nx := fun _ H' => Q .non H', rt := Q } (L2.start N vs) H := by
  unfold fnD at e
  split at e
  · rename_i hl
    obtain ⟨o, e1, e⟩ := Option.bind_eq_some_iff.mp e
    rw [← hl] at e1
    have out : ∀ {G' H' : Hp} {r : Env} {s' : L2.St} {f' : Fp}, Ex G G' → RtL K G' H' r s' f' → n ≤ r.length → Par (fun i => if fx[i]? = some true then (vs[i]?).map some else none) s' → RtL K G' H' (outP fx ps r) (vs.map some) f' := fun {G' H' r s' f'} xg hr hls p =>
      outP_ok xg (by omega) (by omega) En.rt hr fun j v z1 z2 => p j (some v) (by dsimp only; rw [if_pos z1, z2]; rfl)
    have hA : ∀ i : Nat, (!(fx[i]? == some true)) = true → (if fx[i]? = some true then (vs[i]?).map some else none) = none := fun i h => by
      rw [if_neg]
      intro z
      rw [z] at h
      exact absurd h (by decide)
    have P0 : Par (fun i => if fx[i]? = some true then (vs[i]?).map some else none) (L2.start N vs) := fun i v h => by
      dsimp only at h
      split at h
      · obtain ⟨u, z1, z2⟩ := Option.map_eq_some_iff.mp h
        subst z2
        exact start_get z1
      · cases h
    refine hd ⟨H, G, f⟩ _ G H _ _ o hA (entry_si En (by omega)) P0 e1 _ ?_
    cases o with
    | nx r =>
      dsimp only at e
      split at e
      · rename_i c
        cases e
        intro s' G' H' xg I p
        obtain ⟨h, hr, ho⟩ := I.own
        have k1 := out xg hr c p
        have k2 : RtL K G' H' [.fz .non] [some .non] (fun _ => False) := RtL.fzs (l := [.non]) (vs := [.non]) (.cons .non .nil)
        exact q _ G' H' (si_end I I.lv hr ho (k2.app k1 fun b _ z => z) fun b hb => hb.elim (fun z => z) fun z => z.elim)
      · cases e
    | ex c r =>
      dsimp only at e
      split at e
      · rename_i c
        cases e
        intro s' G' H' xg I p
        obtain ⟨h, hr, ho⟩ := I.own
        exact q G' H' (si_end I I.lv hr ho (out xg hr c p) fun b hb => hb)
      · cases e
    | rt w r =>
      obtain ⟨⟨t1, r1⟩, e2, e⟩ := Option.bind_eq_some_iff.mp e
      dsimp only at e
      split at e
      · rename_i c
        cases e
        intro v s' G' H' xg I hl2 hw p
        have fin : ∀ G2, Ex G' G2 → SI K ⟨H, G, f⟩ G2 H' (r1 ++ [t1]) (s' ++ [some v]) → r1.length = s'.length → Q v H' := fun G2 x2 J l2 => by
          obtain ⟨h, hr, ho⟩ := J.own
          obtain ⟨g1, g2, k1, k2, k3, k4, k5⟩ := hr.split l2
          exact q v G2 H' (si_end J J.lv hr ho (k2.app (out (xg.trans x2) k1 c p) k5) fun b hb => hb.elim (k3 b) (k4 b))
        cases w with
        | sh d => cases e2; exact fin G' (Ex.refl G') (by simpa using fz_in (tm := []) (us := []) (by simpa only [W.tm, W.vl, List.append_nil] using I) hw) hl2
        | nw t => cases e2; exact fin G' (Ex.refl G') (by simpa only [W.tm, W.vl] using I) hl2
        | pl i =>
          unfold retW at e2
          dsimp only at e2
          split at e2
          · obtain ⟨⟨d, r2⟩, e3, e2⟩ := Option.bind_eq_some_iff.mp e2
            cases e2
            obtain ⟨G2, x2, I2, l2, q2⟩ := share_ok (tm := []) (us := []) (v := v) (by simpa only [W.tm, W.vl, List.append_nil] using I) hl2 hw e3
            exact fin G2 x2 (by simpa using fz_in I2 q2) l2
          · split at e2
            · cases e2
            · cases e2
            · rename_i t hu hr
              cases e2
              exact fin G' (Ex.refl G') (by simpa using SI.moved (tm := []) (us := []) (by simpa only [W.tm, W.vl, List.append_nil] using I) hl2 hr hw) (by rw [List.length_set]; exact hl2)
      · cases e
    | bk r => cases e
    | ct r => cases e
  · cases e
/-! ### calls -/
abbrev AD := Env → Option (List W × Env)
def tmL : List W → List T
  | [] => []
  | w :: ws => w.tm ++ tmL ws
def vlL : List W → List V → List (Option V)
  | w :: ws, v :: vs => w.vl v ++ vlL ws vs
  | _, _ => []
def WVs (K : PySem.W.Frag) (G : Hp) (s : L2.St) : List W → List V → Prop
  | [], [] => True
  | w :: ws, v :: vs => WV K G s w v ∧ WVs K G s ws vs
  | _, _ => False
def DA (K : PySem.W.Frag) (ta : TA) (f : AD) : Prop := ∀ F G H r s tm us ws r', SI K F G H (r ++ tm) (s ++ us) → r.length = s.length → f r = some (ws, r') → ∀ Q : List V → Hp → Prop, (∀ vs G' H', Ex G G' → SI K F G' H' (r' ++ (tm ++ tmL ws)) (s ++ (us ++ vlL ws vs)) → r'.length = s.length → WVs K G' s ws vs → Q vs H') → ta s H Q
theorem WV.mono {G G' : Hp} {s : L2.St} {w : W} {v : V} (h : WV K G s w v) (x : Ex G G') : WV K G' s w v := by
  cases w with
  | sh d => exact Rp.mono (show Rp K G d v from h) x
  | nw t => trivial
  | pl i => exact h
def daNil : AD := fun r => some ([], r)
def daCons (f : ED) (g : AD) : AD := fun r => (f r).bind fun p => (g p.2).bind fun q => some (p.1 :: q.1, q.2)
theorem da_nil : DA K tNil daNil := fun F G H r s tm us ws r' I hl e Q q => by
  cases e
  exact q [] G H (Ex.refl G) (by simpa only [tmL, vlL, List.append_nil] using I) hl trivial
theorem da_cons {te : TE} {ta : TA} {f : ED} {g : AD} (h1 : DE K te f) (h2 : DA K ta g) : DA K (tCons te ta) (daCons f g) := fun F G H r s tm us ws r' I hl e Q q => by
  obtain ⟨⟨w, r1⟩, e1, e⟩ := Option.bind_eq_some_iff.mp e
  obtain ⟨⟨ws', r2⟩, e2, e⟩ := Option.bind_eq_some_iff.mp e
  cases e
  refine h1 F G H r s tm us w r1 I hl e1 _ fun v G1 H1 x1 I1 l1 hw => h2 F G1 H1 r1 s (tm ++ w.tm) (us ++ w.vl v) ws' r2 I1 l1 e2 _ fun vs G2 H2 x2 I2 l2 hs => q (v :: vs) G2 H2 (x1.trans x2) ?_ l2 ⟨hw.mono x2, hs⟩
  simpa only [tmL, vlL, List.append_assoc] using I2
def pars (r : Env) : List W → Option (List T × Env)
  | [] => some ([], r)
  | .sh d :: ws => (pars r ws).bind fun p => some (.fz d :: p.1, p.2)
  | .nw t :: ws => (pars r ws).bind fun p => some (t :: p.1, p.2)
  | .pl i :: ws => match r[i]? with
    | some (.fz d) => (pars r ws).bind fun p => some (.fz d :: p.1, p.2)
    | some .un => none
    | none => none
    | some t => (pars (r.set i .un) ws).bind fun p => some (t :: p.1, p.2)
theorem pars_ok {G H : Hp} {s : L2.St} {tm : List T} {us : List (Option V)} : ∀ {ws : List W} {vs : List V} {r r' : Env} {ps : List T} {fa fb : Fp}, r.length = s.length → RtL K G H (r ++ tm) (s ++ us) fa → RtL K G H (tmL ws) (vlL ws vs) fb → (∀ b, fa b → ¬ fb b) → WVs K G s ws vs → pars r ws = some (ps, r') →
    ∃ f1 f2 : Fp, RtL K G H (r' ++ tm) (s ++ us) f1 ∧ RtL K G H ps (vs.map some) f2 ∧ (∀ b, f1 b → fa b) ∧ (∀ b, f2 b → fa b ∨ fb b) ∧ (∀ b, f1 b → ¬ f2 b) ∧ r'.length = s.length := by
  intro ws
  induction ws with
  | nil =>
    intro vs r r' ps fa fb hl h1 h2 d hw e
    cases vs with
    | cons _ _ => exact hw.elim
    | nil =>
      cases e
      exact ⟨fa, fun _ => False, h1, .nil, fun b hb => hb, fun b hb => hb.elim, fun b _ z => z, hl⟩
  | cons w ws ih =>
    intro vs r r' ps fa fb hl h1 h2 d hw e
    cases vs with
    | nil => exact hw.elim
    | cons v vs =>
      obtain ⟨hw1, hw⟩ := hw
      cases w with
      | sh dd =>
        obtain ⟨⟨ps0, r0⟩, e1, e⟩ := Option.bind_eq_some_iff.mp (show (pars r ws).bind _ = some (ps, r') from e)
        cases e
        obtain ⟨f1, f2, k1, k2, k3, k4, k5, k6⟩ := ih hl h1 (by simpa only [tmL, vlL, W.tm, W.vl, List.nil_append] using h2) d hw e1
        exact ⟨f1, f2, k1, .cons (g := fun _ => False) (.fz hw1) k2 (fun b hb => hb.elim) (fun b hb => hb) (fun b hb => hb.elim), k3, k4, k5, k6⟩
      | nw t =>
        obtain ⟨⟨ps0, r0⟩, e1, e⟩ := Option.bind_eq_some_iff.mp (show (pars r ws).bind _ = some (ps, r') from e)
        cases e
        cases h2 with | @cons _ _ _ _ _ g h a1 a2 a3 a4 a5 =>
          obtain ⟨f1, f2, k1, k2, k3, k4, k5, k6⟩ := ih hl h1 a2 (fun b hb z => d b hb (a4 b z)) hw e1
          exact ⟨f1, fun b => g b ∨ f2 b, k1, .cons a1 k2 (fun b hb => Or.inl hb) (fun b hb => Or.inr hb) (fun b hb z => (k4 b z).elim (fun q => d b q (a3 b hb)) (a5 b hb)), k3, fun b hb => hb.elim (fun z => Or.inr (a3 b z)) fun z => (k4 b z).elim Or.inl fun q => Or.inr (a4 b q), fun b hb z => z.elim (fun q => d b (k3 b hb) (a3 b q)) (k5 b hb), k6⟩
      | pl i =>
        have h2' : RtL K G H (tmL ws) (vlL ws vs) fb := by simpa only [tmL, vlL, W.tm, W.vl, List.nil_append] using h2
        unfold pars at e
        split at e
        · rename_i dd hr
          obtain ⟨⟨ps0, r0⟩, e1, e⟩ := Option.bind_eq_some_iff.mp e
          cases e
          have hi : i < r.length := (List.getElem?_eq_some_iff.mp hr).1
          obtain ⟨y, g, h, b1, b2, _⟩ := h1.at (i := i) (by rw [List.getElem?_append_left hi]; exact hr)
          rw [List.getElem?_append_left (by omega), show s[i]? = some (some v) from hw1] at b1
          cases b1
          obtain ⟨f1, f2, k1, k2, k3, k4, k5, k6⟩ := ih hl h1 h2' d hw e1
          cases b2 with | fz q => exact ⟨f1, f2, k1, .cons (g := fun _ => False) (.fz q) k2 (fun b hb => hb.elim) (fun b hb => hb) (fun b hb => hb.elim), k3, k4, k5, k6⟩
        · cases e
        · cases e
        · rename_i t n1 n2 hr
          obtain ⟨⟨ps0, r0⟩, e1, e⟩ := Option.bind_eq_some_iff.mp e
          cases e
          have hi : i < r.length := (List.getElem?_eq_some_iff.mp hr).1
          obtain ⟨y, g, h, b1, b2, b3, b4, b5, b6⟩ := h1.at (i := i) (by rw [List.getElem?_append_left hi]; exact hr)
          have q1 := b6 G H .un y (fun _ => False) (Ex.refl G) (fun _ _ => rfl) .un (fun b hb => hb.elim)
          rw [set_same b1, List.set_append_left _ _ hi] at q1
          rw [List.getElem?_append_left (by omega), show s[i]? = some (some v) from hw1] at b1
          cases b1
          obtain ⟨f1, f2, k1, k2, k3, k4, k5, k6⟩ := ih (by rw [List.length_set]; exact hl) (q1.weak (f' := h) fun b hb => hb.elim (fun z => z.elim) fun z => z) h2' (fun b hb z => d b (b4 b hb) z) hw e1
          exact ⟨f1, fun b => g b ∨ f2 b, k1, .cons b2 k2 (fun b hb => Or.inl hb) (fun b hb => Or.inr hb) (fun b hb z => (k4 b z).elim (b5 b hb) fun q => d b (b3 b hb) q), fun b hb => b4 b (k3 b hb), fun b hb => hb.elim (fun z => Or.inl (b3 b z)) fun z => (k4 b z).elim (fun q => Or.inl (b4 b q)) Or.inr, fun b hb z => z.elim (fun q => b5 b q (k3 b hb)) (k5 b hb), k6⟩
def putBack (r : Env) (i : Nat) (p : T) : Env := match r[i]? with
  | some .un => r.set i p
  | _ => r
def back : Env → List W → List T → Env
  | r, .pl i :: ws, p :: ps => back (putBack r i p) ws ps
  | r, _ :: ws, _ :: ps => back r ws ps
  | r, _, _ => r
theorem back_ok {G H : Hp} {s : L2.St} {tm : List T} {us : List (Option V)} : ∀ {ws : List W} {vs : List V} {r : Env} {ps : List T} {fa fb : Fp}, r.length = s.length → RtL K G H (r ++ tm) (s ++ us) fa → RtL K G H ps (vs.map some) fb → (∀ b, fa b → ¬ fb b) → WVs K G s ws vs →
    ∃ f1 : Fp, RtL K G H (back r ws ps ++ tm) (s ++ us) f1 ∧ (∀ b, f1 b → fa b ∨ fb b) ∧ (back r ws ps).length = s.length := by
  intro ws
  induction ws with
  | nil =>
    intro vs r ps fa fb hl h1 h2 d hw
    have e : back r [] ps = r := by cases ps <;> rfl
    rw [e]
    exact ⟨fa, h1, fun b hb => Or.inl hb, hl⟩
  | cons w ws ih =>
    intro vs r ps fa fb hl h1 h2 d hw
    cases vs with
    | nil => exact hw.elim
    | cons v vs =>
      obtain ⟨hw1, hw⟩ := hw
      cases ps with
      | nil => cases h2
      | cons p ps =>
        cases h2 with | @cons _ _ _ _ _ g h a1 a2 a3 a4 a5 =>
          have go : ∃ f1 : Fp, RtL K G H (back r ws ps ++ tm) (s ++ us) f1 ∧ (∀ b, f1 b → fa b ∨ fb b) ∧ (back r ws ps).length = s.length := by
            obtain ⟨f1, k1, k2, k3⟩ := ih hl h1 a2 (fun b hb z => d b hb (a4 b z)) hw
            exact ⟨f1, k1, fun b hb => (k2 b hb).elim Or.inl fun z => Or.inr (a4 b z), k3⟩
          cases w with
          | sh dd => exact go
          | nw t => exact go
          | pl i =>
            show ∃ f1 : Fp, RtL K G H (back (putBack r i p) ws ps ++ tm) (s ++ us) f1 ∧ (∀ b, f1 b → fa b ∨ fb b) ∧ (back (putBack r i p) ws ps).length = s.length
            unfold putBack
            split
            · rename_i hr
              have hi : i < r.length := (List.getElem?_eq_some_iff.mp hr).1
              obtain ⟨y, g0, h0, b1, b2, b3, b4, b5, b6⟩ := h1.at (i := i) (by rw [List.getElem?_append_left hi]; exact hr)
              rw [List.getElem?_append_left (by omega), show s[i]? = some (some v) from hw1] at b1
              cases b1
              have q1 := b6 G H p (some v) g (Ex.refl G) (fun _ _ => rfl) a1 (fun b hb z => d b (b4 b z) (a3 b hb))
              rw [List.set_append_left _ _ hi, set_same (show (s ++ us)[i]? = some (some v) by rw [List.getElem?_append_left (by omega)]; exact hw1)] at q1
              obtain ⟨f1, k1, k2, k3⟩ := ih (by rw [List.length_set]; exact hl) q1 a2 (fun b hb z => hb.elim (fun q => a5 b q z) fun q => d b (b4 b q) (a4 b z)) hw
              exact ⟨f1, k1, fun b hb => (k2 b hb).elim (fun z => z.elim (fun q => Or.inr (a3 b q)) fun q => Or.inl (b4 b q)) fun z => Or.inr (a4 b z), k3⟩
            · exact go
def resW : T → W
  | .fz d => .sh d
  | t => .nw t
theorem WVs.mono {G G' : Hp} {s : L2.St} (x : Ex G G') : ∀ {ws : List W} {vs : List V}, WVs K G s ws vs → WVs K G' s ws vs
  | [], [], _ => trivial
  | [], _ :: _, h => h.elim
  | _ :: _, [], h => h.elim
  | _ :: _, _ :: _, ⟨h1, h2⟩ => ⟨h1.mono x, h2.mono x⟩
theorem WVs.len {G : Hp} {s : L2.St} : ∀ {ws : List W} {vs : List V}, WVs K G s ws vs → ws.length = vs.length
  | [], [], _ => rfl
  | [], _ :: _, h => h.elim
  | _ :: _, [], h => h.elim
  | _ :: _, _ :: _, ⟨_, h2⟩ => congrArg Nat.succ h2.len
theorem vlL_len : ∀ {ws : List W} {vs : List V}, ws.length = vs.length → (tmL ws).length = (vlL ws vs).length
  | [], [], _ => rfl
  | w :: ws, v :: vs, h => by
    have := vlL_len (ws := ws) (vs := vs) (Nat.succ.inj h)
    cases w <;> simp [tmL, vlL, W.tm, W.vl, this]
theorem call_ok {F : Fx} {G H : Hp} {r r2 : Env} {s : L2.St} {tm : List T} {us : List (Option V)} {ws : List W} {vs : List V} {ps : List T} (I : SI K F G H (r ++ (tm ++ tmL ws)) (s ++ (us ++ vlL ws vs))) (hl : r.length = s.length) (ht : tm.length = us.length) (hw : WVs K G s ws vs) (e : pars r ws = some (ps, r2)) :
    ∃ f, Entry K G H ps vs f ∧
      (∀ ps' G' H', End K G H f ps' (vs.map some) G' H' → SI K F G' H' (back r2 ws ps' ++ tm) (s ++ us) ∧ (back r2 ws ps').length = s.length) ∧
      ∀ ps' t v G' H', End K G H f (ps' ++ [t]) (vs.map some ++ [some v]) G' H' → ps'.length = vs.length → SI K F G' H' (back r2 ws ps' ++ (tm ++ (resW t).tm)) (s ++ (us ++ (resW t).vl v)) ∧ (back r2 ws ps').length = s.length ∧ WV K G' s (resW t) v := by
  obtain ⟨f, hr, hf⟩ := I.own
  simp only [← List.append_assoc] at hr
  obtain ⟨ga, gb, h1, h2, h3, h4, h5⟩ := hr.split (by simp; omega)
  obtain ⟨f1, f2, k1, k2, k3, k4, k5, k6⟩ := pars_ok hl h1 h2 h5 hw e
  have f2f : ∀ b, f2 b → f b := fun b hb => (k4 b hb).elim (h3 b) (h4 b)
  have f1f : ∀ b, f1 b → f b := fun b hb => h3 b (k3 b hb)
  have after : ∀ {ps' : List T} {G' H' : Hp} {fb : Fp}, Ex G G' → Sub G' H' → Plain G' → (∀ a o, H a = some o → ¬ f2 a → H' a = some o) → (∀ a, H a ≠ none → H' a ≠ none) → (∀ a o, G' a = some o → G a = some o ∨ f2 a ∨ H a = none) →
      RtL K G' H' ps' (vs.map some) fb → (∀ b, fb b → G' b = none ∧ H' b ≠ none ∧ (f2 b ∨ H b = none)) → ∃ fc : Fp, RtL K G' H' (back r2 ws ps' ++ tm) (s ++ us) fc ∧ (∀ b, fc b → f1 b ∨ fb b) ∧ (∀ b, f1 b → G' b = none ∧ H' b ≠ none) ∧ (back r2 ws ps').length = s.length := fun {ps' G' H' fb} x1 x2 x3 kp lv gn rp ob => by
    have same : ∀ b, f1 b → H' b = H b := fun b hb => by
      cases z : H b with
      | none => exact absurd z (hf b (f1f b hb)).2.1
      | some o => exact kp b o z (k5 b hb)
    obtain ⟨fc, c1, c2, c3⟩ := back_ok k6 (k1.frame x1 same) rp (fun b hb z => (ob b z).2.2.elim (k5 b hb) fun q => (hf b (f1f b hb)).2.1 q) (hw.mono x1)
    refine ⟨fc, c1, c2, fun b hb => ⟨?_, lv b (hf b (f1f b hb)).2.1⟩, c3⟩
    cases z : G' b with
    | none => rfl
    | some o =>
      rcases gn b o z with q | q | q
      · rw [(hf b (f1f b hb)).1] at q; cases q
      · exact absurd q (k5 b hb)
      · exact absurd q (hf b (f1f b hb)).2.1
  refine ⟨f2, ⟨k2, fun b hb => ⟨(hf b (f2f b hb)).1, (hf b (f2f b hb)).2.1⟩, I.gh, I.pl⟩, fun ps' G' H' En => ?_, fun ps' t v G' H' En lp => ?_⟩
  · obtain ⟨fb, rb, ob⟩ := En.rt
    obtain ⟨fc, c1, c2, c3, c4⟩ := after En.gg En.gh En.pl En.keep En.lv En.gn rb ob
    refine ⟨I.next f hf En.gg En.gh En.pl (fun a o z q => En.keep a o z fun w => q (f2f a w)) En.lv (fun a o z => (En.gn a o z).elim Or.inl fun q => q.elim (fun q => Or.inr (Or.inl (f2f a q))) fun q => Or.inr (Or.inr q)) c1 (fun b hb => ?_), c4⟩
    rcases c2 b hb with q | q
    · exact ⟨(c3 b q).1, (c3 b q).2, Or.inl (f1f b q)⟩
    · exact ⟨(ob b q).1, (ob b q).2.1, (ob b q).2.2.elim (fun z => Or.inl (f2f b z)) Or.inr⟩
  · obtain ⟨fb, rb, ob⟩ := En.rt
    obtain ⟨g1, g2, m1, m2, m3, m4, m5⟩ := rb.split (by rw [List.length_map]; exact lp)
    obtain ⟨fc, c1, c2, c3, c4⟩ := after En.gg En.gh En.pl En.keep En.lv En.gn m1 (fun b hb => ob b (m3 b hb))
    have hfc : ∀ b, fc b → G' b = none ∧ H' b ≠ none ∧ (f b ∨ H b = none) := fun b hb => by
      rcases c2 b hb with q | q
      · exact ⟨(c3 b q).1, (c3 b q).2, Or.inl (f1f b q)⟩
      · exact ⟨(ob b (m3 b q)).1, (ob b (m3 b q)).2.1, (ob b (m3 b q)).2.2.elim (fun z => Or.inl (f2f b z)) Or.inr⟩
    have nx : ∀ {r' : List T} {x' : List (Option V)} {f' : Fp}, RtL K G' H' r' x' f' → (∀ b, f' b → G' b = none ∧ H' b ≠ none ∧ (f b ∨ H b = none)) → SI K F G' H' r' x' := fun rr hh =>
      I.next f hf En.gg En.gh En.pl (fun a o z q => En.keep a o z fun w => q (f2f a w)) En.lv (fun a o z => (En.gn a o z).elim Or.inl fun q => q.elim (fun q => Or.inr (Or.inl (f2f a q))) fun q => Or.inr (Or.inr q)) rr hh
    have own : ∀ t0, RtL K G' H' [t0] [some v] g2 → SI K F G' H' (back r2 ws ps' ++ (tm ++ [t0])) (s ++ (us ++ [some v])) := fun t0 mm => by
      have := mm.app c1 fun b hb z => (c2 b hb).elim (fun q => (ob b (m4 b z)).2.2.elim (k5 b q) fun w => (hf b (f1f b q)).2.1 w) fun q => m5 b q z
      simp only [← List.append_assoc]
      exact nx this fun b hb => hb.elim (hfc b) fun z => ⟨(ob b (m4 b z)).1, (ob b (m4 b z)).2.1, (ob b (m4 b z)).2.2.elim (fun z => Or.inl (f2f b z)) Or.inr⟩
    cases t with
    | fz d =>
      refine ⟨by simpa only [resW, W.tm, W.vl, List.append_nil] using nx c1 hfc, c4, ?_⟩
      cases m2 with | cons a1 _ _ _ _ => cases a1 with | fz q => exact q
    | un => exact ⟨own _ m2, c4, trivial⟩
    | ls l => exact ⟨own _ m2, c4, trivial⟩
    | tp l => exact ⟨own _ m2, c4, trivial⟩
    | dk ks l => exact ⟨own _ m2, c4, trivial⟩
    | dt ks l => exact ⟨own _ m2, c4, trivial⟩
/-- f(..), where nothing is raised -/
def dCall (fn : FnT) (f : AD) : ED := fun r => (f r).bind fun p => (pars p.2 p.1).bind fun q => (fn q.1).bind fun z => match z.1 with
  | .ret t => if z.2.length = p.1.length then some (resW t, back q.2 p.1 z.2) else none
  | .exc _ => none
theorem de_ucall {n : Nat} {fn : FnT} {f : AD} {ta : TA} {E : XK} (hn : ∀ ps z, fn ps = some z → ps.length = n) (h : DA K ta f) : DE K (tCall (spD K n fn) [] E ta) (dCall fn f) := fun F G H r s tm us w r' I hl e Q q => by
  obtain ⟨⟨ws, r1⟩, e1, e⟩ := Option.bind_eq_some_iff.mp e
  obtain ⟨⟨ps, r2⟩, e2, e⟩ := Option.bind_eq_some_iff.mp e
  obtain ⟨⟨z, ps'⟩, e3, e⟩ := Option.bind_eq_some_iff.mp e
  have ht : tm.length = us.length := by have := I.len; simp at this; omega
  cases z with
  | exc c => cases e
  | ret t =>
    dsimp only at e
    split at e
    · rename_i c
      cases e
      refine h F G H r s tm us ws r1 I hl e1 _ fun vs G1 H1 x1 I1 l1 hw => ?_
      obtain ⟨f0, En, _, k2⟩ := call_ok I1 l1 ht hw e2
      have lv : ps.length = vs.length := by have := En.rt.length; rw [List.length_map] at this; exact this
      refine ⟨by rw [List.append_nil, ← lv]; exact hn ps _ e3, G1, f0, ps, .ret t, ps', e3, by rw [List.append_nil]; exact En, fun v G2 H2 Ed => ?_⟩
      rw [List.append_nil] at Ed
      obtain ⟨j1, j2, j3⟩ := k2 ps' t v G2 H2 Ed (by rw [c]; exact hw.len)
      exact q v G2 H2 (x1.trans Ed.gg) j1 j2 j3
    · cases e
/-- f(..), of which a refusal may come -/
def dCallX (fn : FnT) (f : AD) : XD := fun r => (f r).bind fun p => (pars p.2 p.1).bind fun q => (fn q.1).bind fun z => match z.1 with
  | .ret t => if z.2.length = p.1.length then some (.inl (resW t), back q.2 p.1 z.2) else none
  | .exc c => some (.inr c, back q.2 p.1 z.2)
theorem dx_ucall {X : WX} {n : Nat} {fn : FnT} {f : AD} {ta : TA} (hn : ∀ ps z, fn ps = some z → ps.length = n) (h : DA K ta f) : DX K X (tCallS (spD K n fn) (WE X) ta) (dCallX fn f) := fun F G H r s zz r' I e Q q => by
  obtain ⟨⟨ws, r1⟩, e1, e⟩ := Option.bind_eq_some_iff.mp e
  obtain ⟨⟨ps, r2⟩, e2, e⟩ := Option.bind_eq_some_iff.mp e
  obtain ⟨⟨z, ps'⟩, e3, e⟩ := Option.bind_eq_some_iff.mp e
  refine h F G H r s [] [] ws r1 (by simpa only [List.append_nil] using I) I.len e1 _ fun vs G1 H1 x1 I1 l1 hw => ?_
  obtain ⟨f0, En, k1, k2⟩ := call_ok I1 l1 rfl hw e2
  have lv : ps.length = vs.length := by have := En.rt.length; rw [List.length_map] at this; exact this
  cases z with
  | exc c =>
    cases e
    refine ⟨by rw [← lv]; exact hn ps _ e3, G1, f0, ps, .exc c, ps', e3, En, fun G2 H2 Ed => ?_⟩
    exact q G2 H2 (x1.trans Ed.gg) (by simpa only [List.append_nil] using (k1 ps' G2 H2 Ed).1)
  | ret t =>
    dsimp only at e
    split at e
    · rename_i c
      cases e
      refine ⟨by rw [← lv]; exact hn ps _ e3, G1, f0, ps, .ret t, ps', e3, En, fun v G2 H2 Ed => ?_⟩
      obtain ⟨j1, j2, j3⟩ := k2 ps' t v G2 H2 Ed (by rw [c]; exact hw.len)
      exact q v G2 H2 (x1.trans Ed.gg) (by simpa only [List.nil_append] using j1) j2 j3
    · cases e
theorem fnD_len {n N : Nat} {fx : List Bool} {g : SD} (ps : List T) (z : Res × List T) (e : fnD n N fx g ps = some z) : ps.length = n := by
  unfold fnD at e
  split at e
  · assumption
  · cases e
end
end Q

set_option Elab.async false
set_option linter.all false
set_option maxRecDepth 100000
set_option maxHeartbeats 2000000
namespace Q
open PySem PySem.Spec PyProof.Rows L2
/-! ### a def's promise where no guard of repr stands around -/
structure FnG (P : Program) (w : World) (K : PySem.W.Frag) (mg : Str → Option Value) (base : Heap) (k : Nat) (f : Addr) (fd : FuncData) (ps : List Str) (sp : Sp) : Prop where
  len : ∀ vs H Q E, sp vs H Q E → vs.length = ps.length
  run : ∀ (A : Around) (outer : List PySem.Env) (s : Shared) (H : Hp) (args : Args) (us : List Value) (vs : List V) (Q : VK) (E : XK), Room k A → A.guards = some [] → Env0 P w K mg base A outer s H → BindsTo s fd args (ps.zip us) → Vals vs us → sp vs H Q E →
    codeAny (model P w) A (.call (.ref f) args) (CR (L2.CX P w) outer P w H s Q E) s
theorem FnG.mono {P : Program} {w : World} {K : PySem.W.Frag} {mg : Str → Option Value} {base : Heap} {j k : Nat} {f : Addr} {fd : FuncData} {ps : List Str} {sp : Sp} (h : FnG P w K mg base j f fd ps sp) (l : j ≤ k) : FnG P w K mg base k f fd ps sp :=
  ⟨h.len, fun A outer s H args us vs Q E hr => h.run A outer s H args us vs Q E (Room.mono hr l)⟩
section
variable {K : PySem.W.Frag}
theorem fn_ok {P : Program} {w : World} {mg : Str → Option Value} {base : Heap} {x qual : Str} {st : Stmt} {f : Addr} {fd : FuncData} {N ps : List Str} {k : Nat} {g : SD} {fx : List Bool} (F : Fun K x qual st f fd) (S : FnScope N ps (defScope st)) (hfx : fx.length = ps.length)
    (hb : ∀ (cdv : Value) (A : Around) (outer : List PySem.Env) (s : Shared) (H : Hp) (E : XK), A.guards = some [] → Room k (A.deeper (envOfC qual (defScope st) s.heap.objs.size f cdv)) →
      ∃ t, PSs (cxOf (L2.CX P w) P w K mg base N qual (defScope st) f cdv A outer s H E) (defBody st) t ∧ DS K (fun i => !(fx[i]? == some true)) (fun c d _ H => E c d H) t g) : FnG P w K mg base (k + 1) f fd ps (spD K ps.length (fnD ps.length N.length fx g)) := by
  obtain ⟨oc, od, kV, doc, pm, an, cdv, ct, osl, rfl, lk, hcd⟩ := F.ex
  have hN : ps.length ≤ N.length := by have := congrArg List.length S.pre; rw [List.length_take] at this; omega
  refine ⟨fun vs H Q E h => h.1, fun A outer s H args us vs Q E room gu e0 bd vals hsp => ?_⟩
  have old : ∀ b o, base.get? b = some o → s.heap.get? b = some o := fun b o e => (e0.bs b o e).1
  have kin : K.In s.heap := e0.mod.kin.keeps old
  refine codeAny_call_function room.depth (kin _ _ lk) rfl S.co S.gen rfl (PySem.W.codeRec_of kin hcd) (bd _ _ _ _ ?_)
  refine wpAny_newFunctionEnv_cells S.kind (fun ⟨n, v⟩ hy => ?_) fun env he s1 inc => ?_
  · rcases S.par n (List.of_mem_zip hy).1 with z | z
    · exact Or.inl z
    · exact Or.inr ⟨z, PySem.W.cellsFrom_some _ _ _ (Or.inl z)⟩
  · subst he
    refine ⟨(e0.mod.nolimit.keeps old).keeps inc.toInCall.keep, codeAny_func ?_⟩
    obtain ⟨t, p1, p2⟩ := hb cdv A outer s H E gu (room.deeper _)
    obtain ⟨lv, G, fp, pss, z, ps', e, En, q⟩ := hsp
    have start0 := inv_start (CX := L2.CX P w) (E := E) (f := f) S room.hd e0 lv vals inc
    refine wpAny_mono (p1.run [] s1 (L2.start N vs) H _ start0 (fnD_run p2 hN hfx lv e En q)) (fun fl s' done => ?_) fun _ _ z => z
    cases fl with
    | brk => obtain ⟨_, _, _, z⟩ := done; exact z.elim
    | cont => obtain ⟨_, _, _, z⟩ := done; exact z.elim
    | ret u => obtain ⟨v, _, H', J, rv, z⟩ := done; exact ⟨v, H', J.os, J.bare, J.base, J.hok, rv, z⟩
    | next => obtain ⟨_, H', J, z⟩ := done; exact ⟨.non, H', J.os, J.bare, J.base, J.hok, rfl, z⟩
end
section
variable {X : Cx} {k : Nat} {f : Addr} {fd : FuncData} {ps : List Str} {sp : Sp} {E : L2.St → XK} {x : Str} {p pos : Pos} {e : Expr} {es : List Expr} {t : TA}
theorem run_fn {pins : List (Addr × Obj)} {σ : L2.St} {H : Hp} {s : Shared} {Q : VK} {us : List Value} {vs : List V} (F : FnG X.prog X.w X.K X.mg X.base k f fd ps sp) (hr : Room k X.A) (gu : X.A.guards = some []) (hb : Binds X.K fd ps []) (hx : PassesAt (L2.CX X.prog X.w) X σ (E σ))
    (I : Inv X pins σ H s) (rv : Vals vs us) (h : sp vs H Q (E σ)) : wpAny (model X.prog X.w) X.A (call (.ref f) us) (EP X pins σ Q) X.xe s := by
  have hl : (us ++ []).length = ps.length := by rw [List.append_nil, ← rv.length]; exact F.len _ _ _ _ h
  have bd := hb s us I.kIn hl
  rw [List.append_nil] at bd
  refine wpAny_call (codeAny_mono (F.run X.A X.stack s H ⟨us, []⟩ us vs Q (E σ) hr gu I.env0 bd rv h) fun res s' told => ?_)
  match res, told with
  | .error er, told => exact hx pins H s er s' I told
  | .ok (.ret u), told => exact I.after told
/-- f(e, ..) -/
theorem pe_fn (F : FnG X.prog X.w X.K X.mg X.base k f fd ps sp) (hr : Room k X.A) (gu : X.A.guards = some []) (hg : Gl X x) (hm : X.mg x = some (.ref f)) (hk : PySem.W.keepIn X.K (.ref f) = true) (hb : Binds X.K fd ps []) (hx : ∀ σ, PassesAt (L2.CX X.prog X.w) X σ (E σ))
    (ha : PA X (e :: es) t) (hdb : (x == ("__debug__" : Str)) = false := by decide) (he : starEach (e :: es) X.env = (false, eval e X.env) :: starEach es X.env := by rfl) (hpl : (backTo pos (starEach es X.env)).any (·.1) = false := by rfl) :
    PE X (.Call (.Name x p) (e :: es) [] pos) (tCallS sp E t) := by
  refine ⟨fun pins s σ H Q I h => wpAny_Call_Name_kw (ld_glob I hg hm ?_ hdb)⟩
  refine PySem.W.callWith_K (h₀ := X.base) I.ok.mod.kin hk (thn (ha.run pos pins s σ H _ I h) fun us s1 done => ?_) he hpl
  obtain ⟨vs, H1, I1, rv, q⟩ := done
  exact ⟨I1.kIn, run_fn F hr gu hb (hx σ) I1 rv q⟩
theorem passNo {X : Cx} (σ : L2.St) : PassesAt (L2.CX X.prog X.w) X σ ((fun _ _ _ _ => False : L2.St → XK) σ) := fun _ _ _ _ _ _ c => by
  obtain ⟨_, _, _, _, _, _, _, _, _, _, _, _, z⟩ := c
  exact z.elim
end
section
variable {K : PySem.W.Frag}
/-- f(..) by its worth, where nothing is raised -/
theorem de_fn {n : Nat} {fn : FnT} {f : AD} {ta : TA} {E : L2.St → XK} (hn : ∀ ps z, fn ps = some z → ps.length = n) (h : DA K ta f) : DE K (tCallS (spD K n fn) E ta) (dCall fn f) := fun F G H r s tm us w r' I hl e Q q => by
  have := de_ucall (E := E s) hn h F G H r s tm us w r' I hl e Q q
  unfold tCall at this
  simp only [List.append_nil] at this
  exact this
/-! ### operations -/
def gRI (C : Int → Int → Prop) [∀ i j, Decidable (C i j)] (h : Int → Int → D) : List D → Option Rs
  | [.int i, .int j] => if C i j then some (.val (h i j)) else none
  | _ => none
theorem dc_rI {C : Int → Int → Prop} [∀ i j, Decidable (C i j)] {h : Int → Int → D} {hv : Int → Int → V} (rp : ∀ G i j, Rp K G (h i j) (hv i j)) : DC K (rl2 (rI C hv)) (gRI C h) := fun G H xs vs z _ _ q e Q k => by
  unfold gRI at e
  split at e
  · rename_i i j
    split at e
    · rename_i c
      cases e
      cases q with | cons a q => cases q with | cons b q => cases q; cases a; cases b; exact ⟨i, j, rfl, rfl, c, k _ (rp G i j)⟩
    · cases e
  · cases e
def gRI0 (h : Int → Int → D) : List D → Option Rs
  | [.int i, .int j] => some (.val (h i j))
  | _ => none
theorem dc_rI0 {h : Int → Int → D} {hv : Int → Int → V} (rp : ∀ G i j, Rp K G (h i j) (hv i j)) : DC K (rl2 (rI0 hv)) (gRI0 h) := fun G H xs vs z _ _ q e Q k => by
  unfold gRI0 at e
  split at e
  · rename_i i j
    cases e
    cases q with | cons a q => cases q with | cons b q => cases q; cases a; cases b; exact ⟨i, j, rfl, rfl, k _ (rp G i j)⟩
  · cases e
def gAdd := gRI0 fun i j => .int (i + j)
def gSubI := gRI0 fun i j => .int (i - j)
instance : ∀ i j, Decidable (CMulW i j) := fun i j => inferInstanceAs (Decidable (_ < _))
instance : ∀ i j, Decidable (CMul i j) := fun i j => inferInstanceAs (Decidable (_ ∨ _))
instance : ∀ i j, Decidable (CDivW i j) := fun i j => inferInstanceAs (Decidable (_ ∧ _))
instance : ∀ i j, Decidable (CPow i j) := fun i j => inferInstanceAs (Decidable (_ ∧ _))
def gMul := gRI CMulW fun i j => .int (i * j)
def gMul1 := gRI CMul fun i j => .int (i * j)
def gMod := gRI (fun _ j => 0 < j) fun i j => .int (i % j)
def gDiv := gRI CDivW fun i j => .int (i / j)
def gPow := gRI CPow fun i j => .int (i ^ j.toNat)
def gShl := gRI CPow fun i j => .int (i * 2 ^ j.toNat)
def gShr := gRI (fun _ j => 0 ≤ j) fun i j => .int (i / 2 ^ j.toNat)
def gBand := gRI0 fun i j => .int (Builtin.bitAnd i j)
def gBor := gRI0 fun i j => .int (Builtin.bitOr i j)
def gBxor := gRI0 fun i j => .int (Builtin.bitXor i j)
def gLt := gRI0 fun i j => .bl (decide (i < j))
def gLe := gRI0 fun i j => .bl (decide (i ≤ j))
def gGt := gRI0 fun i j => .bl (decide (j < i))
def gGe := gRI0 fun i j => .bl (decide (j ≤ i))
theorem dc_add : DC K (rl2 (rI0 fun i j => .int (i + j))) gAdd := dc_rI0 fun _ i j => .int _
theorem dc_sub : DC K (rl2 (rI0 fun i j => .int (i - j))) gSubI := dc_rI0 fun _ i j => .int _
theorem dc_mul : DC K (rl2 (rI CMulW fun i j => .int (i * j))) gMul := dc_rI fun _ i j => .int _
theorem dc_mul1 : DC K (rl2 (rI CMul fun i j => .int (i * j))) gMul1 := dc_rI fun _ i j => .int _
theorem dc_mod : DC K (rl2 (rI (fun _ j => 0 < j) fun i j => .int (i % j))) gMod := dc_rI fun _ i j => .int _
theorem dc_div : DC K (rl2 (rI CDivW fun i j => .int (i / j))) gDiv := dc_rI fun _ i j => .int _
theorem dc_pow : DC K (rl2 (rI CPow fun i j => .int (i ^ j.toNat))) gPow := dc_rI fun _ i j => .int _
theorem dc_shl : DC K (rl2 (rI CPow fun i j => .int (i * 2 ^ j.toNat))) gShl := dc_rI fun _ i j => .int _
theorem dc_shr : DC K (rl2 (rI (fun _ j => 0 ≤ j) fun i j => .int (i / 2 ^ j.toNat))) gShr := dc_rI fun _ i j => .int _
theorem dc_band : DC K (rl2 (rI0 fun i j => .int (Builtin.bitAnd i j))) gBand := dc_rI0 fun _ i j => .int _
theorem dc_bor : DC K (rl2 (rI0 fun i j => .int (Builtin.bitOr i j))) gBor := dc_rI0 fun _ i j => .int _
theorem dc_bxor : DC K (rl2 (rI0 fun i j => .int (Builtin.bitXor i j))) gBxor := dc_rI0 fun _ i j => .int _
theorem dc_lt : DC K (rl2 (rI0 fun i j => .bl (decide (i < j)))) gLt := dc_rI0 fun _ i j => .bl _
theorem dc_le : DC K (rl2 (rI0 fun i j => .bl (decide (i ≤ j)))) gLe := dc_rI0 fun _ i j => .bl _
theorem dc_gt : DC K (rl2 (rI0 fun i j => .bl (decide (j < i)))) gGt := dc_rI0 fun _ i j => .bl _
theorem dc_ge : DC K (rl2 (rI0 fun i j => .bl (decide (j ≤ i)))) gGe := dc_rI0 fun _ i j => .bl _
def gNeg : List D → Option Rs
  | [.int i] => some (.val (.int (-i)))
  | _ => none
theorem dc_neg : DC K (rl1 (rU fun i => .int (-i))) gNeg := fun G H xs vs z _ _ q e Q k => by
  unfold gNeg at e
  split at e
  · cases e
    cases q with | cons a q => cases q; cases a; exact ⟨_, rfl, k _ (.int _)⟩
  · cases e
/-- t + u, tuples -/
def gCatT : List D → Option Rs
  | [.tup a, .tup b] => if a.length + b.length ≤ 1000000 then some (.newT (a ++ b)) else none
  | _ => none
theorem dc_catT : DC K (rl2 (rCatA K)) gCatT := fun G H xs vs z sb pl q e Q k => by
  unfold gCatT at e
  split at e
  · rename_i a b
    split at e
    · rename_i c
      cases e
      cases q with | cons x q => cases q with | cons y q =>
        cases q
        cases x with | tup x1 x2 => cases y with | tup y1 y2 =>
          refine ⟨_, _, _, _, rfl, rfl, sub_t pl sb x1, sub_t pl sb y1, big (by rw [← x2.length, ← y2.length]; exact c), fun z => ?_, fun _ z => ?_, fun _ _ p hp => k.2 p _ hp (x2.append y2)⟩
          · subst z
            cases x2
            exact k.1 _ (.tup y1 y2)
          · subst z
            cases y2
            refine k.1 _ (.tup x1 ?_)
            rw [List.append_nil]
            exact x2
    · cases e
  · cases e
def gCatL : List D → Option Rs
  | [.lst a, .lst b] => if a.length + b.length ≤ 1000000 then some (.newL (a ++ b)) else none
  | _ => none
theorem dc_catL : DC K (rl2 rCat) gCatL := fun G H xs vs z sb pl q e Q k => by
  unfold gCatL at e
  split at e
  · rename_i a b
    split at e
    · rename_i c
      cases e
      cases q with | cons x q => cases q with | cons y q =>
        cases q
        cases x with | lst x1 x2 => cases y with | lst y1 y2 =>
          exact ⟨_, _, _, _, rfl, rfl, sub_ex sb x1, sub_ex sb y1, big (by rw [← x2.length, ← y2.length]; exact c), fun p hp => k p _ hp (x2.append y2)⟩
    · cases e
  · cases e
/-! ### data as the library's data -/
mutual
def D.py : D → Option PyData
  | .non => some .none
  | .bl b => some (.bool b)
  | .int i => some (.int i)
  | .str x => some (.str x)
  | .tup l => (pyL l).map .tuple
  | .lst l => (pyL l).map .list
  | _ => none
def pyL : List D → Option (List PyData)
  | [] => some []
  | d :: l => d.py.bind fun x => (pyL l).map (x :: ·)
end
mutual
theorem py_dp {H : Hp} : ∀ (d : D) (v : V) (x : PyData), Rp K H d v → d.py = some x → Dp K H v x
  | _, _, x, .non, e => by unfold D.py at e; cases e; exact .non
  | _, _, x, .bl b, e => by unfold D.py at e; cases e; exact .bl b
  | _, _, x, .int i, e => by unfold D.py at e; cases e; exact .int i
  | _, _, x, .str z, e => by unfold D.py at e; cases e; exact .str z
  | _, _, x, .lst h q, e => by
    unfold D.py at e
    obtain ⟨xs, e1, e2⟩ := Option.map_eq_some_iff.mp e
    subst e2
    exact .lst (Or.inl (Or.inl h)) (pyL_dp _ _ xs q e1)
  | _, _, x, .tup h q, e => by
    unfold D.py at e
    obtain ⟨xs, e1, e2⟩ := Option.map_eq_some_iff.mp e
    subst e2
    exact .tup h (pyL_dp _ _ xs q e1)
  | _, _, x, .scr h, e => by unfold D.py at e; cases e
  | _, _, x, .dk h l q, e => by unfold D.py at e; cases e
  | _, _, x, .dt h l q, e => by unfold D.py at e; cases e
  | _, _, x, .exc h, e => by unfold D.py at e; cases e
theorem pyL_dp {H : Hp} : ∀ (d : List D) (v : List V) (x : List PyData), RpL K H d v → pyL d = some x → DpAll K H v x
  | _, _, x, .nil, e => by unfold pyL at e; cases e; exact .nil
  | _, _, x, .cons h q, e => by
    unfold pyL at e
    obtain ⟨y, e1, e2⟩ := Option.bind_eq_some_iff.mp e
    obtain ⟨ys, e3, e4⟩ := Option.map_eq_some_iff.mp e2
    subst e4
    exact .cons (py_dp _ _ y h e1) (pyL_dp _ _ ys q e3)
end
def gEq : List D → Option Rs
  | [a, b] => a.py.bind fun x => b.py.bind fun y => if SeqAt.shaped x = true ∧ SeqAt.shaped y = true then some (.val (.bl (PyData.eqv x y))) else none
  | _ => none
def gNe : List D → Option Rs
  | [a, b] => a.py.bind fun x => b.py.bind fun y => if SeqAt.shaped x = true ∧ SeqAt.shaped y = true then some (.val (.bl (!PyData.eqv x y))) else none
  | _ => none
theorem dc_eq : DC K (rl2 (rEqD K)) gEq := fun G H xs vs z sb pl q e Q k => by
  unfold gEq at e
  split at e
  · obtain ⟨x, e1, e⟩ := Option.bind_eq_some_iff.mp e
    obtain ⟨y, e2, e⟩ := Option.bind_eq_some_iff.mp e
    split at e
    · rename_i c
      cases e
      cases q with | cons p q => cases q with | cons p2 q => cases q; exact ⟨x, y, py_dp _ _ x (Rp.sub pl sb _ _ p) e1, py_dp _ _ y (Rp.sub pl sb _ _ p2) e2, c.1, c.2, k _ (.bl _)⟩
    · cases e
  · cases e
theorem dc_ne : DC K (rl2 (rNeD K)) gNe := fun G H xs vs z sb pl q e Q k => by
  unfold gNe at e
  split at e
  · obtain ⟨x, e1, e⟩ := Option.bind_eq_some_iff.mp e
    obtain ⟨y, e2, e⟩ := Option.bind_eq_some_iff.mp e
    split at e
    · rename_i c
      cases e
      cases q with | cons p q => cases q with | cons p2 q => cases q; exact ⟨x, y, py_dp _ _ x (Rp.sub pl sb _ _ p) e1, py_dp _ _ y (Rp.sub pl sb _ _ p2) e2, c.1, c.2, k _ (.bl _)⟩
    · cases e
  · cases e
def D.isNon : D → Bool
  | .non => true
  | _ => false
theorem isNon_rp {G : Hp} {d : D} {v : V} (h : Rp K G d v) : decide (v = .non) = d.isNon := by
  cases h <;> first | rfl | (simp [D.isNon])
def gIsN : List D → Option Rs
  | [a, .non] => some (.val (.bl a.isNon))
  | _ => none
def gNotN : List D → Option Rs
  | [a, .non] => some (.val (.bl (!a.isNon)))
  | _ => none
theorem dc_isN : DC K (rl2 fun x y H Q => y = .non ∧ Q (.bl (decide (x = .non))) H) gIsN := fun G H xs vs z sb pl q e Q k => by
  unfold gIsN at e
  split at e
  · cases e
    cases q with | cons p q => cases q with | cons p2 q =>
      cases q
      cases p2
      refine ⟨rfl, ?_⟩
      rw [isNon_rp p]
      exact k _ (.bl _)
  · cases e
theorem dc_notN : DC K (rl2 fun x y H Q => y = .non ∧ Q (.bl (!decide (x = .non))) H) gNotN := fun G H xs vs z sb pl q e Q k => by
  unfold gNotN at e
  split at e
  · cases e
    cases q with | cons p q => cases q with | cons p2 q =>
      cases q
      cases p2
      refine ⟨rfl, ?_⟩
      rw [isNon_rp p]
      exact k _ (.bl _)
  · cases e
/-! ### parts of sequences -/
theorem RpL.atI {G : Hp} {l : List D} {vs : List V} {i : Int} {d : D} (q : RpL K G l vs) (e : atI l i = some d) : ∃ v, atI vs i = some v ∧ Rp K G d v := by
  unfold L2.atI at e ⊢
  rw [← q.length]
  obtain ⟨j, e1, e2⟩ := Option.bind_eq_some_iff.mp e
  obtain ⟨v, e3, e4⟩ := q.get e2
  exact ⟨v, by rw [e1]; exact e3, e4⟩
theorem RpL.ints {G : Hp} (ns : List Int) : RpL K G (ns.map D.int) (ns.map V.int) := by
  induction ns with
  | nil => exact .nil
  | cons n ns ih => exact .cons (.int n) ih
def D.items : D → Option (List D)
  | .lst l => some l
  | .tup l => some l
  | .scr ns => some (ns.map .int)
  | _ => none
theorem items_rp {G H : Hp} {d : D} {v : V} {l : List D} (sb : Sub G H) (h : Rp K G d v) (e : d.items = some l) : ∃ p xs, v = .ref p ∧ (SqL K H p xs ∨ SqT K H p xs) ∧ RpL K G l xs := by
  cases h with
  | lst a b => cases e; exact ⟨_, _, rfl, Or.inl (Or.inl (Or.inl (sub_ex sb a))), b⟩
  | tup a b => cases e; exact ⟨_, _, rfl, Or.inr (sub_t trivial sb a), b⟩
  | scr a => cases e; exact ⟨_, _, rfl, Or.inl (sub_l trivial sb a), RpL.ints _⟩
  | _ => cases e
def gIx : List D → Option Rs
  | [a, .int i] => a.items.bind fun l => (atI l i).bind fun d => some (.val d)
  | _ => none
theorem dc_ix : DC K (rl2 (rIx K)) gIx := fun G H xs vs z sb pl q e Q k => by
  unfold gIx at e
  split at e
  · obtain ⟨l, e1, e⟩ := Option.bind_eq_some_iff.mp e
    obtain ⟨d, e2, e⟩ := Option.bind_eq_some_iff.mp e
    cases e
    cases q with | cons p q => cases q with | cons p2 q =>
      cases q
      cases p2
      obtain ⟨a, us, rfl, h, r⟩ := items_rp sb p e1
      obtain ⟨v, e3, e4⟩ := r.atI e2
      rcases h with h | h
      · exact Or.inl ⟨a, us, _, v, rfl, rfl, h, e3, k _ e4⟩
      · exact Or.inr (Or.inl ⟨a, us, _, v, rfl, rfl, h, e3, k _ e4⟩)
  · cases e
def gLen : List D → Option Rs
  | [.str x] => if x.length ≤ 1000000 then some (.val (.int x.length)) else none
  | [a] => a.items.bind fun l => some (.val (.int l.length))
  | _ => none
theorem dc_len : DC K (fun xs H Q => ∃ x n, xs = [x] ∧ LenV K x H n ∧ Q (.int n) H) gLen := fun G H xs vs z sb pl q e Q k => by
  unfold gLen at e
  split at e
  · split at e
    · rename_i c
      cases e
      cases q with | cons p q => cases q; cases p; exact ⟨_, _, rfl, ⟨big c, rfl⟩, k _ (.int _)⟩
    · cases e
  · obtain ⟨l, e1, e⟩ := Option.bind_eq_some_iff.mp e
    cases e
    cases q with | cons p q =>
      cases q
      obtain ⟨a, us, rfl, h, r⟩ := items_rp sb p e1
      refine ⟨_, us.length, rfl, ?_, k _ (by rw [r.length]; exact .int _)⟩
      rcases h with h | h
      · exact Or.inl ⟨us, h, rfl⟩
      · exact Or.inr ⟨us, h, rfl⟩
  · cases e
def gMax2 : List D → Option Rs
  | [.int i, .int j] => some (.val (.int (if j > i then j else i)))
  | _ => none
def gMin2 : List D → Option Rs
  | [.int i, .int j] => some (.val (.int (if j < i then j else i)))
  | _ => none
theorem dc_max2 : DC K (fun xs H Q => ∃ i j, xs = [.int i, .int j] ∧ Q (.int (if j > i then j else i)) H) gMax2 := fun G H xs vs z sb pl q e Q k => by
  unfold gMax2 at e
  split at e
  · cases e
    cases q with | cons p q => cases q with | cons p2 q => cases q; cases p; cases p2; exact ⟨_, _, rfl, k _ (.int _)⟩
  · cases e
theorem dc_min2 : DC K (fun xs H Q => ∃ i j, xs = [.int i, .int j] ∧ Q (.int (if j < i then j else i)) H) gMin2 := fun G H xs vs z sb pl q e Q k => by
  unfold gMin2 at e
  split at e
  · cases e
    cases q with | cons p q => cases q with | cons p2 q => cases q; cases p; cases p2; exact ⟨_, _, rfl, k _ (.int _)⟩
  · cases e
def gTuple : List D → Option Rs
  | [.lst l] => some (.newT l)
  | [.tup l] => some (.newT l)
  | _ => none
theorem dc_tuple : DC K (fun xs H Q => ∃ p ys, xs = [.ref p] ∧ ((SqL K H p ys ∧ ∀ l, H l = none → Q (.ref l) (upd H l (.tup ys))) ∨ (SqT K H p ys ∧ Q (.ref p) H))) gTuple := fun G H xs vs z sb pl q e Q k => by
  unfold gTuple at e
  split at e
  · cases e
    cases q with | cons p q =>
      cases q
      cases p with | lst a b => exact ⟨_, _, rfl, Or.inl ⟨Or.inl (Or.inl (sub_ex sb a)), fun l hl => k.2 l _ hl b⟩⟩
  · cases e
    cases q with | cons p q =>
      cases q
      cases p with | tup a b => exact ⟨_, _, rfl, Or.inr ⟨sub_t trivial sb a, k.1 _ (.tup a b)⟩⟩
  · cases e
def gList : List D → Option Rs
  | [a] => a.items.bind fun l => some (.newL l)
  | _ => none
theorem dc_list : DC K (fun xs H Q => ∃ p ys, xs = [.ref p] ∧ (SqL K H p ys ∨ SqT K H p ys) ∧ ∀ l, H l = none → Q (.ref l) (upd H l (.lst ys))) gList := fun G H xs vs z sb pl q e Q k => by
  unfold gList at e
  split at e
  · obtain ⟨l, e1, e⟩ := Option.bind_eq_some_iff.mp e
    cases e
    cases q with | cons p q =>
      cases q
      obtain ⟨a, us, rfl, h, r⟩ := items_rp sb p e1
      exact ⟨a, us, rfl, h, fun x hx => k x _ hx r⟩
  · cases e
def bools : List D → Option (List Bool)
  | [] => some []
  | d :: l => d.bool.bind fun b => (bools l).map (b :: ·)
theorem bools_rp {G : Hp} : ∀ {l : List D} {vs : List V} {bs : List Bool}, RpL K G l vs → bools l = some bs → vs = bs.map V.bl
  | [], vs, bs, h, e => by cases h; cases e; rfl
  | d :: l, vs, bs, h, e => by
    obtain ⟨b, e1, e2⟩ := Option.bind_eq_some_iff.mp e
    obtain ⟨bs', e3, e4⟩ := Option.map_eq_some_iff.mp e2
    subst e4
    cases h with | cons h1 h2 => rw [bool_rp h1 e1, bools_rp h2 e3]; rfl
def gAll : List D → Option Rs
  | [.lst l] => (bools l).bind fun bs => some (.val (.bl (bs.all id)))
  | _ => none
theorem dc_all : DC K (rAll K) gAll := fun G H xs vs z sb pl q e Q k => by
  unfold gAll at e
  split at e
  · obtain ⟨bs, e1, e⟩ := Option.bind_eq_some_iff.mp e
    cases e
    cases q with | cons p q =>
      cases q
      cases p with | lst a b => exact ⟨_, bs, rfl, by rw [← bools_rp b e1]; exact Or.inl (Or.inl (sub_ex sb a)), k _ (.bl _)⟩
  · cases e
end
end Q

set_option Elab.async false
set_option linter.all false
set_option maxRecDepth 100000
set_option maxHeartbeats 2000000
namespace Q
open PySem PySem.Spec PyProof.Rows L2
section
variable {K : PySem.W.Frag} {F : Fx} {G H : Hp} {r : List T} {x : List (Option V)}
/-- an own list, changed -/
theorem SI.relist {ts : List T} {ys : List (Option V)} (I : SI K F G H (r ++ ts) (x ++ ys)) (hl : r.length = x.length) {i : Nat} {l : List T} (e : r[i]? = some (.ls l)) :
    ∃ a vs, x[i]? = some (some (.ref a)) ∧ H a = some (.lst vs) ∧ l.length = vs.length ∧ ∃ ge gt : Fp, RtL K G H l (vs.map some) ge ∧ RtL K G H ts ys gt ∧ (∀ b, ge b → ¬ gt b) ∧
      ∀ (l' : List T) (vs' : List V) (ts' : List T) (ys' : List (Option V)) (g' gt' : Fp), RtL K G H l' (vs'.map some) g' → RtL K G H ts' ys' gt' → (∀ b, g' b → ge b ∨ gt b) → (∀ b, gt' b → ge b ∨ gt b) → (∀ b, g' b → ¬ gt' b) → SI K F G (upd H a (.lst vs')) (r.set i (.ls l') ++ ts') (x ++ ys') := by
  obtain ⟨f, hr, hf⟩ := I.own
  obtain ⟨fa, gt, h1, h2, h3, h4, h5⟩ := hr.split hl
  obtain ⟨y, g, h, b1, b2, b3, b4, b5, b6⟩ := h1.at e
  cases b2 with | @ls a vs _ _ ge c1 c2 c3 c4 =>
    refine ⟨a, vs, b1, c2, by have := c3.length; simpa using this, ge, gt, c3, h2, fun b hb z => h5 b (b3 b (c4 b hb).1) z, fun l' vs' ts' ys' g' gt' q1 q2 q3 q4 q5 => ?_⟩
    have na : ∀ b, g' b ∨ gt' b → b ≠ a := fun b hb z => by
      subst z
      have : ge b ∨ gt b := hb.elim (q3 b) (q4 b)
      exact this.elim (fun w => (c4 b w).2 rfl) fun w => h5 b (b3 b c1) w
    have nh : ∀ b, h b → b ≠ a := fun b hb z => by subst z; exact b5 b c1 hb
    have gg : ∀ b, ge b ∨ gt b → ¬ h b := fun b hb z => hb.elim (fun w => b5 b (c4 b w).1 z) fun w => h5 b (b4 b z) w
    have k1 : RtL K G (upd H a (.lst vs')) l' (vs'.map some) g' := q1.frame (Ex.refl G) fun b hb => upd_ne (na b (Or.inl hb))
    have k2 : RtL K G (upd H a (.lst vs')) ts' ys' gt' := q2.frame (Ex.refl G) fun b hb => upd_ne (na b (Or.inr hb))
    have k3 : Rt K G (upd H a (.lst vs')) (.ls l') (some (.ref a)) (fun b => b = a ∨ g' b) := .ls (Or.inl rfl) upd_same k1 fun b hb => ⟨Or.inr hb, na b (Or.inl hb)⟩
    have k4 := b6 G (upd H a (.lst vs')) (.ls l') (some (.ref a)) _ (Ex.refl G) (fun b hb => upd_ne (nh b hb)) k3 (fun b hb z => hb.elim (nh b z) fun w => gg b (q3 b w) z)
    rw [set_same b1] at k4
    have k5 := k2.app k4 fun b hb z => hb.elim (fun w => w.elim (na b (Or.inr z)) fun w => q5 b w z) fun w => gg b (q4 b z) w
    have fin : ∀ b, f b → G b = none ∧ upd H a (.lst vs') b ≠ none ∧ (f b ∨ H b = none) := fun b hb => ⟨(hf b hb).1, by
      by_cases z : b = a
      · subst z; rw [upd_same]; exact Option.some_ne_none _
      · rw [upd_ne z]; exact (hf b hb).2.1, Or.inl hb⟩
    have ff : ∀ b, ge b ∨ gt b → f b := fun b hb => hb.elim (fun w => h3 b (b3 b (c4 b w).1)) (h4 b)
    have fa' : f a := h3 a (b3 a c1)
    refine I.next f hf (Ex.refl G) (fun b o hb => ?_) trivial (fun b o hb z => ?_) (fun b hb => ?_) (fun b o hb => Or.inl hb) k5 (fun b hb => ?_)
    · have : b ≠ a := fun z => by subst z; rw [(hf b fa').1] at hb; cases hb
      rw [upd_ne this]
      exact I.gh b o hb
    · rw [upd_ne fun w => z (by rw [w]; exact fa')]
      exact hb
    · by_cases z : b = a
      · subst z; rw [upd_same]; exact Option.some_ne_none _
      · rw [upd_ne z]; exact hb
    · rcases hb with (z | z) | z
      · rcases z with z | z
        · subst z; exact fin b fa'
        · exact fin b (ff b (q3 b z))
      · exact fin b (h3 b (b4 b z))
      · exact fin b (ff b (q4 b z))
theorem SI.push {t : T} {v : V} (I : SI K F G H (r ++ [t]) (x ++ [some v])) (hl : r.length = x.length) {i : Nat} {l : List T} (e : r[i]? = some (.ls l)) :
    ∃ a vs, x[i]? = some (some (.ref a)) ∧ H a = some (.lst vs) ∧ l.length = vs.length ∧ SI K F G (upd H a (.lst (vs ++ [v]))) (r.set i (.ls (l ++ [t]))) x := by
  obtain ⟨a, vs, e1, e2, e3, ge, gt, c1, c2, c3, fin⟩ := I.relist hl e
  refine ⟨a, vs, e1, e2, e3, ?_⟩
  have := fin (l ++ [t]) (vs ++ [v]) [] [] (fun b => ge b ∨ gt b) (fun _ => False) (by rw [List.map_append]; exact c2.app c1 c3) .nil (fun b hb => hb) (fun b hb => hb.elim) (fun b _ z => z)
  simpa only [List.append_nil] using this
theorem SI.put {t : T} {v : V} (I : SI K F G H (r ++ [t]) (x ++ [some v])) (hl : r.length = x.length) {i : Nat} {l : List T} (e : r[i]? = some (.ls l)) (j : Nat) :
    ∃ a vs, x[i]? = some (some (.ref a)) ∧ H a = some (.lst vs) ∧ l.length = vs.length ∧ SI K F G (upd H a (.lst (vs.set j v))) (r.set i (.ls (l.set j t))) x := by
  obtain ⟨a, vs, e1, e2, e3, ge, gt, c1, c2, c3, fin⟩ := I.relist hl e
  refine ⟨a, vs, e1, e2, e3, ?_⟩
  have key : ∃ g' : Fp, RtL K G H (l.set j t) ((vs.set j v).map some) g' ∧ ∀ b, g' b → ge b ∨ gt b := by
    by_cases c : j < l.length
    · obtain ⟨y, g, h, b1, b2, b3, b4, b5, b6⟩ := c1.at (i := j) (List.getElem?_eq_getElem c)
      cases c2 with | cons a1 _ a3 _ _ =>
        have k := b6 G H t (some v) _ (Ex.refl G) (fun _ _ => rfl) a1 (fun b hb z => c3 b (b4 b z) (a3 b hb))
        rw [← List.map_set] at k
        exact ⟨_, k, fun b hb => hb.elim (fun z => Or.inr (a3 b z)) fun z => Or.inl (b4 b z)⟩
    · rw [List.set_eq_of_length_le (by omega), List.set_eq_of_length_le (by omega)]
      exact ⟨ge, c1, fun b hb => Or.inl hb⟩
  obtain ⟨g', k1, k2⟩ := key
  have := fin (l.set j t) (vs.set j v) [] [] g' (fun _ => False) k1 .nil k2 (fun b hb => hb.elim) (fun b _ z => z)
  simpa only [List.append_nil] using this
theorem SI.popped (I : SI K F G H r x) {i : Nat} {l : List T} {t : T} (e : r[i]? = some (.ls (l ++ [t]))) :
    ∃ a vs v, x[i]? = some (some (.ref a)) ∧ H a = some (.lst (vs ++ [v])) ∧ SI K F G (upd H a (.lst vs)) (r.set i (.ls l) ++ [t]) (x ++ [some v]) := by
  obtain ⟨a, vs, e1, e2, e3, ge, gt, c1, c2, c3, fin⟩ := SI.relist (ts := []) (ys := []) (by simpa only [List.append_nil] using I) I.len e
  have hv : vs ≠ [] := fun z => by subst z; simp at e3
  obtain ⟨us, v, rfl⟩ : ∃ us v, vs = us ++ [v] := ⟨vs.dropLast, vs.getLast hv, (List.dropLast_concat_getLast hv).symm⟩
  rw [List.map_append] at c1
  obtain ⟨g1, g2, k1, k2, k3, k4, k5⟩ := c1.split (by simp at e3 ⊢; exact e3)
  exact ⟨a, us, v, e1, e2, fin l us [t] [some v] g1 g2 k1 k2 (fun b hb => Or.inl (k3 b hb)) (fun b hb => Or.inl (k4 b hb)) k5⟩
theorem SI.cleared (I : SI K F G H r x) {i : Nat} {l : List T} (e : r[i]? = some (.ls l)) : ∃ a vs, x[i]? = some (some (.ref a)) ∧ H a = some (.lst vs) ∧ SI K F G (upd H a (.lst [])) (r.set i (.ls [])) x := by
  obtain ⟨a, vs, e1, e2, e3, ge, gt, c1, c2, c3, fin⟩ := SI.relist (ts := []) (ys := []) (by simpa only [List.append_nil] using I) I.len e
  have := fin [] [] [] [] (fun _ => False) (fun _ => False) .nil .nil (fun b hb => hb.elim) (fun b hb => hb.elim) (fun b _ z => z)
  exact ⟨a, vs, e1, e2, by simpa only [List.append_nil] using this⟩
theorem SI.listAt (I : SI K F G H r x) {i : Nat} {l : List T} (e : r[i]? = some (.ls l)) : ∃ a vs f, x[i]? = some (some (.ref a)) ∧ H a = some (.lst vs) ∧ RtL K G H l (vs.map some) f := by
  obtain ⟨a, vs, e1, e2, e3, ge, gt, c1, _⟩ := SI.relist (ts := []) (ys := []) (by simpa only [List.append_nil] using I) I.len e
  exact ⟨a, vs, ge, e1, e2, c1⟩
end
section
variable {K : PySem.W.Frag}
theorem get_left {r : Env} {tm : List T} {i : Nat} {t : T} (e : r[i]? = some t) : (r ++ tm)[i]? = some t := by
  rw [List.getElem?_append_left (List.getElem?_eq_some_iff.mp e).1]
  exact e
theorem set_left {r : Env} {tm : List T} {i : Nat} {t u : T} (e : r[i]? = some t) : (r ++ tm).set i u = r.set i u ++ tm := List.set_append_left _ _ (List.getElem?_eq_some_iff.mp e).1
theorem of_left {r : Env} {s : L2.St} {us : List (Option V)} {i : Nat} {t : T} {y : Option V} (hl : r.length = s.length) (e : r[i]? = some t) (h : (s ++ us)[i]? = some y) : s[i]? = some y := by
  rw [List.getElem?_append_left (by have := (List.getElem?_eq_some_iff.mp e).1; omega)] at h
  exact h
def isLs : Option T → Bool
  | some (.ls _) => true
  | _ => false
theorem isLs_of {o : Option T} (h : isLs o = true) : ∃ l, o = some (.ls l) := by
  cases o with
  | none => cases h
  | some t => cases t with
    | ls l => exact ⟨l, rfl⟩
    | _ => cases h
def isFz : Option T → Bool
  | some (.fz _) => true
  | _ => false
theorem isFz_of {o : Option T} (h : isFz o = true) : ∃ l, o = some (.fz l) := by
  cases o with
  | none => cases h
  | some t => cases t with
    | fz l => exact ⟨l, rfl⟩
    | _ => cases h
/-- name.append(e) -/
def dAppend (i : Nat) (f : MD) : ED := fun r => if isLs r[i]? = true then (f r).bind fun p => match p.2[i]? with
  | some (.ls l) => if l.length < 1000000 then some (.sh .non, p.2.set i (.ls (l ++ [p.1]))) else none
  | _ => none
  else none
theorem de_append {i : Nat} {te : TE} {f : MD} (h : DM K te f) : DE K (tBM K "list" rAppend (tVar i) (tCons te tNil)) (dAppend i f) := fun F G H r s tm us w r' I hl e Q q => by
  unfold dAppend at e
  split at e
  case isFalse => cases e
  rename_i hls
  obtain ⟨⟨t, r1⟩, e1, e⟩ := Option.bind_eq_some_iff.mp e
  dsimp only at e
  split at e
  · rename_i l hr
    split at e
    · rename_i c
      cases e
      obtain ⟨l0, hr0⟩ := isLs_of hls
      obtain ⟨a, vs0, f0, z1, z2, _⟩ := I.listAt (get_left hr0)
      have z1' := of_left hl hr0 z1
      refine ⟨.ref a, z1', Or.inl ⟨rfl, _, Or.inl (Or.inl z2)⟩, ?_⟩
      refine h F G H r s tm us t r1 I hl e1 _ fun v G1 H1 x1 I1 l1 => ?_
      simp only [← List.append_assoc] at I1
      have hl2 : (r1 ++ tm).length = (s ++ us).length := by have := I1.len; simp at this ⊢; omega
      obtain ⟨b, vs, y1, y2, y3, J⟩ := I1.push hl2 (get_left hr)
      have y1' := of_left l1 hr y1
      rw [z1'] at y1'
      cases y1'
      rw [set_left hr] at J
      exact ⟨a, vs, v, rfl, rfl, y2, bigl (y3 ▸ c), q _ G1 _ x1 (by simpa only [W.tm, W.vl, List.append_nil] using J) (by rw [List.length_set]; exact l1) .non⟩
    · cases e
  · cases e
/-- name.pop() -/
def dPop (i : Nat) : ED := fun r => match r[i]? with
  | some (.ls l) => (l.getLast?).bind fun t => some (resW t, r.set i (.ls l.dropLast))
  | _ => none
theorem res_in {F : Fx} {G H : Hp} {r : Env} {s : L2.St} {tm : List T} {us : List (Option V)} {t : T} {v : V} (I : SI K F G H (r ++ (tm ++ [t])) (s ++ (us ++ [some v]))) (hl : (r ++ tm).length = (s ++ us).length) : SI K F G H (r ++ (tm ++ (resW t).tm)) (s ++ (us ++ (resW t).vl v)) ∧ WV K G s (resW t) v := by
  cases t with
  | fz d =>
    have I' : SI K F G H ((r ++ tm) ++ [.fz d]) ((s ++ us) ++ [some v]) := by simpa only [List.append_assoc] using I
    obtain ⟨f, hr, _⟩ := I'.own
    obtain ⟨_, _, _, k2, _⟩ := hr.split hl
    refine ⟨by simpa only [resW, W.tm, W.vl, List.append_nil] using I'.drop hl, ?_⟩
    cases k2 with | cons a1 _ _ _ _ => cases a1 with | fz q => exact q
  | un => exact ⟨I, trivial⟩
  | ls l => exact ⟨I, trivial⟩
  | tp l => exact ⟨I, trivial⟩
  | dk ks l => exact ⟨I, trivial⟩
  | dt ks l => exact ⟨I, trivial⟩
theorem de_pop {i : Nat} : DE K (tBM0 K "list" rPop (tVar i)) (dPop i) := fun F G H r s tm us w r' I hl e Q q => by
  unfold dPop at e
  split at e
  · rename_i l hr
    obtain ⟨t, e1, e⟩ := Option.bind_eq_some_iff.mp e
    cases e
    obtain ⟨l0, rfl⟩ : ∃ l0, l = l0 ++ [t] := by
      have hn : l ≠ [] := fun z => by subst z; cases e1
      refine ⟨l.dropLast, ?_⟩
      rw [List.getLast?_eq_some_getLast hn] at e1
      cases e1
      exact (List.dropLast_concat_getLast hn).symm
    obtain ⟨a, vs, v, z1, z2, J⟩ := I.popped (get_left hr)
    rw [set_left hr, List.append_assoc, List.append_assoc] at J
    rw [List.dropLast_concat] at *
    have lr : (r.set i (.ls l0) ++ tm).length = (s ++ us).length := by have := I.len; simp at this ⊢; omega
    obtain ⟨J1, J2⟩ := res_in J lr
    refine ⟨.ref a, of_left hl hr z1, Or.inl ⟨rfl, _, Or.inl (Or.inl z2)⟩, a, vs ++ [v], v, rfl, rfl, z2, by simp, ?_⟩
    rw [List.dropLast_concat]
    exact q v G _ (Ex.refl G) J1 (by rw [List.length_set]; exact hl) J2
  · cases e
/-- name.clear() -/
def dClear (i : Nat) : ED := fun r => match r[i]? with
  | some (.ls _) => some (.sh .non, r.set i (.ls []))
  | _ => none
theorem de_clear {i : Nat} : DE K (tBM0 K "list" rClear (tVar i)) (dClear i) := fun F G H r s tm us w r' I hl e Q q => by
  unfold dClear at e
  split at e
  · rename_i l hr
    cases e
    obtain ⟨a, vs, z1, z2, J⟩ := I.cleared (get_left hr)
    rw [set_left hr] at J
    exact ⟨.ref a, of_left hl hr z1, Or.inl ⟨rfl, _, Or.inl (Or.inl z2)⟩, a, vs, rfl, rfl, z2, q _ G _ (Ex.refl G) (by simpa only [W.tm, W.vl, List.append_nil] using J) (by rw [List.length_set]; exact hl) .non⟩
  · cases e
/-- name[e], an own list's shared item -/
def dIxO (i : Nat) (f : FD) : ED := fun r => if isLs r[i]? = true then (f r).bind fun p => match p.1, p.2[i]? with
  | .int k, some (.ls l) => (atI l k).bind fun t => match t with
    | .fz d => some (.sh d, p.2)
    | _ => none
  | _, _ => none
  else none
theorem RtL.get {G H : Hp} {l : List T} {ys : List (Option V)} {f : Fp} {j : Nat} {t : T} (h : RtL K G H l ys f) (e : l[j]? = some t) : ∃ y g, ys[j]? = some y ∧ Rt K G H t y g := by
  obtain ⟨y, g, _, b1, b2, _⟩ := h.at e
  exact ⟨y, g, b1, b2⟩
theorem de_ixO {i : Nat} {ti : TE} {f : FD} (h : DF K ti f) : DE K (tOp (rIx K) (tVar i) ti) (dIxO i f) := fun F G H r s tm us w r' I hl e Q q => by
  unfold dIxO at e
  split at e
  case isFalse => cases e
  rename_i hls
  obtain ⟨⟨d, r1⟩, e1, e⟩ := Option.bind_eq_some_iff.mp e
  dsimp only at e
  split at e
  · rename_i k l hr
    obtain ⟨t, e2, e⟩ := Option.bind_eq_some_iff.mp e
    split at e
    · rename_i dd
      cases e
      obtain ⟨l0, hr0⟩ := isLs_of hls
      obtain ⟨a, vs0, f0, z1, z2, _⟩ := I.listAt (get_left hr0)
      refine ⟨.ref a, of_left hl hr0 z1, ?_⟩
      refine h F G H r s tm us _ _ I hl e1 _ fun v G1 H1 x1 I1 l1 hd => ?_
      cases hd
      obtain ⟨b, vs, f1, y1, y2, y3⟩ := I1.listAt (get_left hr)
      have y1' := of_left l1 hr y1
      rw [of_left hl hr0 z1] at y1'
      cases y1'
      unfold L2.atI at e2
      obtain ⟨j, e3, e4⟩ := Option.bind_eq_some_iff.mp e2
      obtain ⟨y, g, e5, e6⟩ := y3.get e4
      cases e6 with | @fz _ v _ q1 =>
        have hlen := y3.length
        rw [List.length_map] at hlen
        rw [List.getElem?_map] at e5
        obtain ⟨v', e7, e8⟩ := Option.map_eq_some_iff.mp e5
        cases e8
        refine Or.inl ⟨a, vs, _, v, rfl, rfl, Or.inl (Or.inl y2), ?_, q _ G1 H1 x1 (by simpa only [W.tm, W.vl, List.append_nil] using I1) l1 q1⟩
        unfold L2.atI
        rw [← hlen, e3]
        exact e7
    · cases e
  · cases e
/-- name[e] = v -/
def gdIx (i : Nat) (f : FD) : GD := fun r t => if isLs r[i]? = true then (f r).bind fun p => match p.1, p.2[i]? with
  | .int k, some (.ls l) => (ixN l.length k).bind fun j => some (p.2.set i (.ls (l.set j t)))
  | _, _ => none
  else none
theorem dg_ix {A : Nat → Bool} {i : Nat} {ti : TE} {f : FD} (h : DF K ti f) : DG K A (L2.gSub (tVar i) ti rSetL) (gdIx i f) := fun F P G H r s t v tm us r' a I hl p e Q q => by
  unfold gdIx at e
  split at e
  case isFalse => cases e
  rename_i hls
  obtain ⟨⟨d, r1⟩, e1, e⟩ := Option.bind_eq_some_iff.mp e
  dsimp only at e
  split at e
  · rename_i k l hr
    obtain ⟨j, e2, e⟩ := Option.bind_eq_some_iff.mp e
    cases e
    obtain ⟨l0, hr0⟩ := isLs_of hls
    obtain ⟨b, vs0, f0, z1, z2, _⟩ := I.listAt (get_left hr0)
    refine ⟨.ref b, of_left hl hr0 z1, ?_⟩
    refine h F G H r s (t :: tm) (some v :: us) _ r1 I hl e1 _ fun v1 G1 H1 x1 I1 l1 hd => ?_
    cases hd
    have tl : tm.length = us.length := by have := I1.len; simp at this; omega
    have I2 : SI K F G1 H1 ((r1 ++ tm) ++ [t]) ((s ++ us) ++ [some v]) := by
      obtain ⟨f, hr1, hf⟩ := I1.own
      obtain ⟨g1, g2, k1, k2, k3, k4, k5⟩ := hr1.split l1
      cases k2 with | @cons _ _ _ _ _ gt ht a1 a2 a3 a4 a5 =>
        have m1 := a2.app k1 fun b hb z => k5 b hb (a4 b z)
        have m2 : RtL K G1 H1 [t] [some v] gt := .cons a1 (h := fun _ => False) .nil (fun b hb => hb) (fun b hb => hb.elim) (fun b _ z => z)
        exact I1.same hf (m2.app m1 fun b hb z => hb.elim (fun w => k5 b w (a3 b z)) fun w => a5 b z w) fun b hb => hb.elim (fun w => w.elim (k3 b) fun w => k4 b (a4 b w)) fun w => k4 b (a3 b w)
    obtain ⟨c, vs, y1, y2, y3, J⟩ := I2.put (by simp; omega) (get_left hr) j
    have y1' := of_left l1 hr y1
    rw [of_left hl hr0 z1] at y1'
    cases y1'
    rw [set_left hr] at J
    exact ⟨b, vs, _, j, rfl, rfl, y2, by rw [← y3]; exact e2, q s G1 _ x1 J (by rw [List.length_set]; exact l1) rfl p⟩
  · cases e
/-! ### slices -/
abbrev PD := Env → Option (Option Int × Env)
def DP (K : PySem.W.Frag) (tp : TO) (f : PD) : Prop := ∀ F G H r s tm us o r', SI K F G H (r ++ tm) (s ++ us) → r.length = s.length → f r = some (o, r') → ∀ Q : Option Int → Hp → Prop, (∀ G' H', Ex G G' → SI K F G' H' (r' ++ tm) (s ++ us) → r'.length = s.length → Q o H') → tp s H Q
def pNo : PD := fun r => some (none, r)
def pAt (f : FD) : PD := fun r => (f r).bind fun p => match p.1 with
  | .int i => some (some i, p.2)
  | _ => none
theorem dp_no : DP K tNoPart pNo := fun F G H r s tm us o r' I hl e Q q => by
  cases e
  exact q G H (Ex.refl G) I hl
theorem dp_at {te : TE} {f : FD} (h : DF K te f) : DP K (tPart te) (pAt f) := fun F G H r s tm us o r' I hl e Q q => by
  obtain ⟨⟨d, r1⟩, e1, e⟩ := Option.bind_eq_some_iff.mp e
  dsimp only at e
  split at e
  · cases e
    refine h F G H r s tm us _ _ I hl e1 _ fun v G1 H1 x1 I1 l1 hd => ?_
    cases hd
    exact ⟨_, rfl, q G1 H1 x1 I1 l1⟩
  · cases e
def cutD (l : List D) (lo hi : Option Int) : List D := (l.drop (HT.sIx l.length 0 lo)).take (HT.sIx l.length l.length hi - HT.sIx l.length 0 lo)
theorem RpL.cut {G : Hp} {l : List D} {vs : List V} (q : RpL K G l vs) (lo hi : Option Int) : RpL K G (cutD l lo hi) (cutV vs lo hi) := by
  unfold cutD cutV
  rw [q.length]
  exact (q.drop _).take _
def DSl (K : PySem.W.Frag) (rl : V → Option Int → Option Int → Hp → VK → Prop) (g : D → Option Int → Option Int → Option Rs) : Prop := ∀ G H x v lo hi z, Sub G H → Rp K G x v → g x lo hi = some z → ∀ Q : VK, RsOk K G H Q z → rl v lo hi H Q
def dSl (g : D → Option Int → Option Int → Option Rs) (f : FD) (lo hi : PD) : ED := fun r => (f r).bind fun p => (lo p.2).bind fun a => (hi a.2).bind fun b => (g p.1 a.1 b.1).bind fun z => some (z.w, b.2)
theorem de_sl {rl : V → Option Int → Option Int → Hp → VK → Prop} {g : D → Option Int → Option Int → Option Rs} {te : TE} {tl th : TO} {f : FD} {lo hi : PD} (hg : DSl K rl g) (h : DF K te f) (h1 : DP K tl lo) (h2 : DP K th hi) : DE K (tSl rl te tl th) (dSl g f lo hi) := fun F G H r s tm us w r' I hl e Q q => by
  obtain ⟨⟨d, r1⟩, e1, e⟩ := Option.bind_eq_some_iff.mp e
  obtain ⟨⟨a, r2⟩, e2, e⟩ := Option.bind_eq_some_iff.mp e
  obtain ⟨⟨b, r3⟩, e3, e⟩ := Option.bind_eq_some_iff.mp e
  obtain ⟨z, e4, e⟩ := Option.bind_eq_some_iff.mp e
  cases e
  refine h F G H r s tm us d r1 I hl e1 _ fun v G1 H1 x1 I1 l1 hd => h1 F G1 H1 r1 s tm us a r2 I1 l1 e2 _ fun G2 H2 x2 I2 l2 => h2 F G2 H2 r2 s tm us b _ I2 l2 e3 _ fun G3 H3 x3 I3 l3 => ?_
  exact hg G3 H3 d v a b z I3.gh (hd.mono (x2.trans x3)) e4 Q (rs_ok I3 l3 fun v G' H' x4 I4 l4 hw => q v G' H' (((x1.trans x2).trans x3).trans x4) I4 l4 hw)
def gSlT : D → Option Int → Option Int → Option Rs
  | .tup l, lo, hi => some (.newT (cutD l lo hi))
  | _, _, _ => none
theorem sl_all {n : Nat} {l : List D} (hn : l.length = n) {lo hi : Option Int} (h1 : HT.sIx n 0 lo = 0) (h2 : HT.sIx n n hi = n) : cutD l lo hi = l := by
  unfold cutD
  rw [hn, h1, h2, ← hn]
  simp
theorem dsl_tup : DSl K (rSlA K) gSlT := fun G H x v lo hi z sb q e Q k => by
  unfold gSlT at e
  split at e
  · cases e
    cases q with | tup a b =>
      refine ⟨_, _, rfl, sub_t trivial sb a, fun z => k.1 _ ?_, fun _ p hp => k.2 p _ hp (b.cut lo hi)⟩
      rw [sl_all b.length z.1 z.2]
      exact .tup a b
  · cases e
def gSlL : D → Option Int → Option Int → Option Rs
  | .lst l, lo, hi => some (.newL (cutD l lo hi))
  | _, _, _ => none
theorem dsl_lst : DSl K (rSlL K) gSlL := fun G H x v lo hi z sb q e Q k => by
  unfold gSlL at e
  split at e
  · cases e
    cases q with | lst a b => exact ⟨_, _, rfl, Or.inl (Or.inl (sub_ex sb a)), fun p hp => k p _ hp (b.cut lo hi)⟩
  · cases e
/-! ### a < b < c -/
def dChain (g g' : List D → Option Rs) (fa fb fc : FD) : ED := fun r => (fa r).bind fun p => (fb p.2).bind fun p2 => (g [p.1, p2.1]).bind fun z => match z with
  | .val (.bl true) => (fc p2.2).bind fun p3 => (g' [p2.1, p3.1]).bind fun z' => some (z'.w, p3.2)
  | .val (.bl false) => some (.sh (.bl false), p2.2)
  | _ => none
theorem de_chain {ta tb tc : TE} {fa fb fc : FD} {rl rl' : R2} {g g' : List D → Option Rs} (ha : DF K ta fa) (hb : DF K tb fb) (hc : DF K tc fc) (h1 : DC K (rl2 rl) g) (h2 : DC K (rl2 rl') g') : DE K (tChain rl rl' ta tb tc) (dChain g g' fa fb fc) := fun F G H r s tm us w r' I hl e Q q => by
  obtain ⟨⟨d1, r1⟩, e1, e⟩ := Option.bind_eq_some_iff.mp e
  obtain ⟨⟨d2, r2⟩, e2, e⟩ := Option.bind_eq_some_iff.mp e
  obtain ⟨z, e3, e⟩ := Option.bind_eq_some_iff.mp e
  refine ha F G H r s tm us d1 r1 I hl e1 _ fun v G1 H1 x1 I1 l1 q1 => hb F G1 H1 r1 s tm us d2 r2 I1 l1 e2 _ fun u G2 H2 x2 I2 l2 q2 => ?_
  refine h1 G2 H2 [d1, d2] [v, u] z I2.gh I2.pl (.cons (q1.mono x2) (.cons q2 .nil)) e3 _ ?_
  dsimp only at e
  split at e
  · obtain ⟨⟨d3, r3⟩, e4, e⟩ := Option.bind_eq_some_iff.mp e
    obtain ⟨z', e5, e⟩ := Option.bind_eq_some_iff.mp e
    cases e
    intro w0 hw0
    cases hw0
    refine ⟨true, rfl, ?_⟩
    rw [if_pos rfl]
    exact hc F G2 H2 r2 s tm us d3 _ I2 l2 e4 _ fun w3 G3 H3 x3 I3 l3 q3 => h2 G3 H3 [d2, d3] [u, w3] z' I3.gh I3.pl (.cons (q2.mono x3) (.cons q3 .nil)) e5 Q (rs_ok I3 l3 fun v G' H' x4 I4 l4 hw => q v G' H' (((x1.trans x2).trans x3).trans x4) I4 l4 hw)
  · cases e
    intro w0 hw0
    cases hw0
    refine ⟨false, rfl, ?_⟩
    rw [if_neg (by decide)]
    exact q _ G2 H2 (x1.trans x2) (by simpa only [W.tm, W.vl, List.append_nil] using I2) l2 (.bl false)
  · cases e
/-! ### name op= e -/
def dAug (i : Nat) (g : List D → Option Rs) (f : FD) : SD := fun r => if isFz r[i]? = true then (f r).bind fun p => match p.2[i]? with
  | some (.fz d) => (g [d, p.1]).bind fun z => match z with
    | .val d' => some (.nx (p.2.set i (.fz d')))
    | _ => none
  | _ => none
  else none
theorem ds_aug {A : Nat → Bool} {X : WX} {i : Nat} {g : List D → Option Rs} {te : TE} {rl : R2} {f : FD} (hA : A i = true) (h : DF K te f) (hg : DC K (rl2 rl) g) : DS K A X (tAug i te rl) (dAug i g f) := fun F P G H r s o a I p e E q => by
  unfold dAug at e
  split at e
  case isFalse => cases e
  rename_i hfz
  obtain ⟨⟨d1, r1⟩, e1, e⟩ := Option.bind_eq_some_iff.mp e
  dsimp only at e
  split at e
  · rename_i d hr
    obtain ⟨z, e2, e⟩ := Option.bind_eq_some_iff.mp e
    cases z with
    | newT l => cases e
    | newL l => cases e
    | val d' =>
      cases e
      obtain ⟨d0, hr0⟩ := isFz_of hfz
      obtain ⟨f0, k0, _⟩ := I.own
      obtain ⟨y, _, k1, k2⟩ := k0.get hr0
      cases k2 with | @fz _ v _ _ =>
        refine ⟨v, k1, h F G H r s [] [] d1 r1 (by simpa only [List.append_nil] using I) I.len e1 _ fun u G1 H1 x1 I1 l1 q1 => ?_⟩
        rw [List.append_nil, List.append_nil] at I1
        obtain ⟨f1, k3, _⟩ := I1.own
        obtain ⟨y, gg, k4, k5⟩ := k3.get hr
        rw [k1] at k4
        cases k4
        cases k5 with | fz qd =>
          refine hg G1 H1 [d, d1] [v, u] _ I1.gh I1.pl (.cons qd (.cons q1 .nil)) e2 _ fun w hw => ?_
          have J := SI.into (tm := []) (us := []) (t := .fz d') (y := some w) (by simpa using I1.fzs (l := [d']) (vs := [w]) (.cons hw .nil)) I1.len i
          exact q _ G1 H1 x1 (by simpa only [List.append_nil] using J) (p.set (a i hA))
  · cases e
end
end Q

set_option Elab.async false
set_option linter.all false
set_option maxRecDepth 100000
set_option maxHeartbeats 2000000
namespace Q
open PySem PySem.Spec PyProof.Rows L2
section
variable {K : PySem.W.Frag}
/-! ### walks over two things -/
def zipD (a b : List D) : List D := List.zipWith (fun x y => .tup [x, y]) a b
theorem walk_z {a b : Addr} {l m : List D} {xs ys : List V} {G0 : Hp} (h1 : G0 a = some (.lst xs)) (q1 : RpL K G0 l xs) (h2 : G0 b = some (.lst ys)) (q2 : RpL K G0 m ys) : WalkD K (Itz K a b) (zipD l m) G0 := fun F G H r x xg I i => by
  have s1 : SqL K H a xs := Or.inl (Or.inl (sub_ex I.gh (xg _ _ h1)))
  have s2 : SqL K H b ys := Or.inl (Or.inl (sub_ex I.gh (xg _ _ h2)))
  unfold zipD
  refine ⟨fun d hd => ?_, fun hl => ?_⟩
  · rw [List.getElem?_zipWith] at hd
    cases e1 : l[i]? with
    | none => rw [e1] at hd; cases hd
    | some dx =>
      cases e2 : m[i]? with
      | none => rw [e1, e2] at hd; cases hd
      | some dy =>
        rw [e1, e2] at hd
        cases hd
        obtain ⟨vx, z1, z2⟩ := q1.get e1
        obtain ⟨vy, z3, z4⟩ := q2.get e2
        refine ⟨⟨xs, ys, vx, vy, s1, s2, z1, z3⟩, fun v H' hv => ?_⟩
        obtain ⟨p, x', y', rfl, hp, rfl, k1, k2⟩ := hv
        have := k1 xs s1
        rw [z1] at this
        cases this
        have := k2 ys s2
        rw [z3] at this
        cases this
        have en : Ex G (upd G p (.tup [vx, vy])) := Ex.new (I.Gnone hp)
        exact ⟨_, en, I.laid hp (o := .tup [vx, vy]) (fun _ _ z => HO.noConfusion z), .tup (Or.inl (Or.inl upd_same)) (.cons ((z2.mono xg).mono en) (.cons ((z4.mono xg).mono en) .nil))⟩
  · rw [List.length_zipWith] at hl
    refine ⟨xs, ys, s1, s2, ?_⟩
    rw [← q1.length, ← q2.length]
    omega
def dZip (f : FDs) : ID := fun r => (f r).bind fun p => match p.1 with
  | [.lst a, .lst b] => some (zipD a b, p.2)
  | _ => none
theorem di_zip {ta : TA} {f : FDs} (h : DFs K ta f) : DI K (iZip K ta) (dZip f) := fun F G H r s tm us l r' I hl e R q => by
  obtain ⟨⟨ds, r1⟩, e1, e⟩ := Option.bind_eq_some_iff.mp e
  dsimp only at e
  split at e
  · cases e
    refine h F G H r s tm us _ _ I hl e1 _ fun vs G1 H1 x1 I1 l1 hv => ?_
    cases hv with | cons a hv => cases hv with | cons b hv =>
      cases hv
      cases a with | lst a1 a2 => cases b with | lst b1 b2 =>
        exact ⟨_, _, _, _, rfl, Or.inl (Or.inl (sub_ex I1.gh a1)), Or.inl (Or.inl (sub_ex I1.gh b1)), q _ G1 H1 x1 I1 l1 (walk_z a1 a2 b1 b2)⟩
  · cases e
def enumD (a : List D) : List D := a.zipIdx.map fun p => .tup [.int (p.2 : Nat), p.1]
theorem walk_e {a : Addr} {l : List D} {xs : List V} {G0 : Hp} (h1 : G0 a = some (.lst xs)) (q1 : RpL K G0 l xs) : WalkD K (Ite K a) (enumD l) G0 := fun F G H r x xg I i => by
  have s1 : SqL K H a xs := Or.inl (Or.inl (sub_ex I.gh (xg _ _ h1)))
  unfold enumD
  refine ⟨fun d hd => ?_, fun hl => ?_⟩
  · rw [List.getElem?_map, List.getElem?_zipIdx] at hd
    cases e1 : l[i]? with
    | none => rw [e1] at hd; cases hd
    | some dx =>
      rw [e1] at hd
      cases hd
      obtain ⟨vx, z1, z2⟩ := q1.get e1
      refine ⟨⟨xs, vx, s1, z1⟩, fun v H' hv => ?_⟩
      obtain ⟨p, x', rfl, hp, rfl, k1⟩ := hv
      have := k1 xs s1
      rw [z1] at this
      cases this
      have en : Ex G (upd G p (.tup [.int (i : Nat), vx])) := Ex.new (I.Gnone hp)
      refine ⟨_, en, I.laid hp (o := .tup [.int (i : Nat), vx]) (fun _ _ z => HO.noConfusion z), .tup (Or.inl (Or.inl upd_same)) (.cons ?_ (.cons ((z2.mono xg).mono en) .nil))⟩
      dsimp only
      rw [Nat.zero_add]
      exact .int _
  · rw [List.length_map, List.length_zipIdx] at hl
    exact ⟨xs, s1, by rw [← q1.length]; exact hl⟩
def dEnum (f : FDs) : ID := fun r => (f r).bind fun p => match p.1 with
  | [.lst a] => some (enumD a, p.2)
  | _ => none
theorem di_enum {ta : TA} {f : FDs} (h : DFs K ta f) : DI K (iEnum K ta) (dEnum f) := fun F G H r s tm us l r' I hl e R q => by
  obtain ⟨⟨ds, r1⟩, e1, e⟩ := Option.bind_eq_some_iff.mp e
  dsimp only at e
  split at e
  · cases e
    refine h F G H r s tm us _ _ I hl e1 _ fun vs G1 H1 x1 I1 l1 hv => ?_
    cases hv with | cons a hv =>
      cases hv
      cases a with | lst a1 a2 => exact ⟨_, _, rfl, Or.inl (Or.inl (sub_ex I1.gh a1)), q _ G1 H1 x1 I1 l1 (walk_e a1 a2)⟩
  · cases e
/-! ### the slots of a comprehension -/
def wipeT (r : Env) : List Nat → Env
  | [] => r
  | v :: vs => (wipeT r vs).set v .un
theorem wipeT_len (r : Env) : ∀ vs : List Nat, (wipeT r vs).length = r.length
  | [] => rfl
  | v :: vs => by unfold wipeT; rw [List.length_set, wipeT_len r vs]
theorem SI.reset {F : Fx} {G H : Hp} {r : Env} {s : L2.St} {tm : List T} {us : List (Option V)} (I : SI K F G H (r ++ tm) (s ++ us)) (hl : r.length = s.length) {t : T} {y : Option V} (h : Rt K G H t y (fun _ => False)) (i : Nat) : SI K F G H (r.set i t ++ tm) (s.set i y ++ us) := by
  refine SI.into ?_ hl i
  obtain ⟨f, hr, hf⟩ := I.own
  obtain ⟨g1, g2, k1, k2, k3, k4, k5⟩ := hr.split hl
  have m : RtL K G H (t :: tm) (y :: us) g2 := .cons (g := fun _ => False) h k2 (fun b hb => hb.elim) (fun b hb => hb) (fun b hb => hb.elim)
  exact I.same hf (m.app k1 k5) fun b hb => hb.elim (k3 b) (k4 b)
theorem SI.wiped {F : Fx} {G H : Hp} {r : Env} {s : L2.St} {tm : List T} {us : List (Option V)} (I : SI K F G H (r ++ tm) (s ++ us)) (hl : r.length = s.length) : ∀ vs : List Nat, SI K F G H (wipeT r vs ++ tm) (wipe s vs ++ us)
  | [] => I
  | v :: vs => (SI.wiped I hl vs).reset (by rw [wipeT_len, wipe_length]; exact hl) .un v
theorem wipe_in {s : L2.St} {i : Nat} : ∀ {vs : List Nat}, i ∈ vs → i < s.length → (wipe s vs)[i]? = some none
  | v :: vs, h, hi => by
    unfold wipe
    by_cases c : v = i
    · subst c
      rw [List.getElem?_set_self (by rw [wipe_length]; exact hi)]
    · rw [List.getElem?_set_ne c]
      exact wipe_in ((List.mem_cons.mp h).resolve_left fun z => c z.symm) hi
theorem wipe_same {s s' : L2.St} {vs : List Nat} (hl : s.length = s'.length) (h : ∀ i : Nat, i ∉ vs → s[i]? = s'[i]?) : wipe s vs = wipe s' vs := by
  apply List.ext_getElem?
  intro i
  by_cases c : i ∈ vs
  · by_cases hi : i < s.length
    · rw [wipe_in c hi, wipe_in c (by omega)]
    · rw [List.getElem?_eq_none (by rw [wipe_length]; omega), List.getElem?_eq_none (by rw [wipe_length]; omega)]
  · rw [wipe_out c, wipe_out c]
    exact h i c
theorem of_wipe {s s' : L2.St} {vs : List Nat} (h : wipe s vs = wipe s' vs) {i : Nat} (c : i ∉ vs) : s[i]? = s'[i]? := by
  rw [← wipe_out (vs := vs) c, h, wipe_out c]
theorem wipe_idem {s : L2.St} {vs : List Nat} : wipe (wipe s vs) vs = wipe s vs := wipe_same (by rw [wipe_length]) fun i c => wipe_out c
theorem wipe_len {s s' : L2.St} {vs : List Nat} (h : wipe s vs = wipe s' vs) : s.length = s'.length := by
  rw [← wipe_length s vs, h, wipe_length]
def slotP (r0 : Env) (i : Nat) : T := match r0[i]? with
  | some t => keepP t
  | none => .un
def restore (r0 : Env) : List Nat → Env → Env
  | [], r => r
  | i :: own, r => (restore r0 own r).set i (slotP r0 i)
def resV (s : L2.St) : List Nat → L2.St → L2.St
  | [], x => x
  | i :: own, x => (resV s own x).set i ((s[i]?).getD none)
theorem restore_len {r0 : Env} : ∀ {own : List Nat} {r : Env}, (restore r0 own r).length = r.length
  | [], r => rfl
  | i :: own, r => by unfold restore; rw [List.length_set]; exact restore_len
theorem resV_len {s : L2.St} : ∀ {own : List Nat} {x : L2.St}, (resV s own x).length = x.length
  | [], r => rfl
  | i :: own, r => by unfold resV; rw [List.length_set]; exact resV_len
theorem resV_get {s : L2.St} : ∀ {own : List Nat} {x : L2.St}, x.length = s.length → (∀ i : Nat, i ∉ own → x[i]? = s[i]?) → resV s own x = s
  | [], x, hl, h => List.ext_getElem? fun i => h i (by simp)
  | j :: own, x, hl, h => by
    unfold resV
    apply List.ext_getElem?
    intro i
    by_cases c : j = i
    · subst c
      by_cases hi : j < s.length
      · rw [List.getElem?_set_self (by rw [resV_len]; omega), List.getElem?_eq_getElem hi]
        rfl
      · rw [List.getElem?_eq_none (by rw [List.length_set, resV_len]; omega), List.getElem?_eq_none (by omega)]
    · rw [List.getElem?_set_ne c]
      have : ∀ (ow : List Nat) (y : L2.St), (i ∈ ow → i < y.length → (resV s ow y)[i]? = some ((s[i]?).getD none)) ∧ (i ∉ ow → (resV s ow y)[i]? = y[i]?) := by
        intro ow
        induction ow with
        | nil => intro y; exact ⟨fun z => by simp at z, fun _ => rfl⟩
        | cons k ow ih =>
          intro y
          unfold resV
          by_cases ck : k = i
          · subst ck
            exact ⟨fun _ hi => by rw [List.getElem?_set_self (by rw [resV_len]; exact hi)], fun z => absurd List.mem_cons_self z⟩
          · rw [List.getElem?_set_ne ck]
            exact ⟨fun z hi => (ih y).1 ((List.mem_cons.mp z).resolve_left fun w => ck w.symm) hi, fun z => (ih y).2 fun w => z (List.mem_cons_of_mem _ w)⟩
      by_cases ci : i ∈ own
      · by_cases hi : i < s.length
        · rw [(this own x).1 ci (by omega), List.getElem?_eq_getElem hi]
          rfl
        · rw [List.getElem?_eq_none (by rw [resV_len]; omega), List.getElem?_eq_none (by omega)]
      · rw [(this own x).2 ci]
        exact h i fun z => (List.mem_cons.mp z).elim (fun w => c w.symm) ci
theorem slotP_rt {G G' H H' : Hp} {r0 : Env} {s : L2.St} {f : Fp} (h : RtL K G H r0 s f) (x : Ex G G') (i : Nat) : Rt K G' H' (slotP r0 i) ((s[i]?).getD none) (fun _ => False) := by
  unfold slotP
  cases e : r0[i]? with
  | none => exact .un
  | some t =>
    obtain ⟨y, g, k1, k2⟩ := h.get e
    rw [k1]
    exact keepP_rt k2 x
theorem SI.restored {F : Fx} {G H : Hp} {r : Env} {x : L2.St} {tm : List T} {us : List (Option V)} {G0 H0 : Hp} {r0 : Env} {s : L2.St} {f : Fp} (I : SI K F G H (r ++ tm) (x ++ us)) (hl : r.length = x.length) (h : RtL K G0 H0 r0 s f) (xg : Ex G0 G) : ∀ own : List Nat, SI K F G H (restore r0 own r ++ tm) (resV s own x ++ us)
  | [] => I
  | i :: own => (SI.restored I hl h xg own).reset (by rw [restore_len, resV_len]; exact hl) (slotP_rt h xg i) i
/-! ### comprehensions -/
def dYes : BD := fun r => some (true, r)
theorem dt_yes : DT K tYes dYes := fun F G H r s tm us b r' I hl e Q q => by
  cases e
  exact q G H (Ex.refl G) I hl
def compD (h : GD) (b : BD) (e : MD) (own : List Nat) : List D → Env → List T → Option (List T × Env)
  | [], r, acc => some (acc, r)
  | d :: l, r, acc => (h (wipeT r own) (.fz d)).bind fun r1 => (b r1).bind fun p => if p.1 = true then (e p.2).bind fun q => if acc.length < 1000000 then compD h b e own l q.2 (acc ++ [q.1]) else none else compD h b e own l p.2 acc
theorem comp_core {F : Fx} {J : It} {l : List D} {G0 G H : Hp} {g : TG} {tt : TT} {te : TE} {h : GD} {b : BD} {e : MD} {own : List Nat} {r r' : Env} {acc acc' : List T} {tm : List T} {us : List (Option V)} {Dn : Addr} {σ σ0 : L2.St} {Nx : Hp → Prop}
    (hJ : WalkD K J l G0) (hg : DG K (fun i => own.contains i) g h) (hb : DT K tt b) (he : DM K te e) (e0 : compD h b e own l r acc = some (acc', r')) (I : SI K F G H (r ++ (tm ++ [.ls acc])) (σ0 ++ (us ++ [some (.ref Dn)]))) (x0 : Ex G0 G) (hw0 : wipe σ0 own = wipe σ own) (hl : r.length = σ0.length)
    (done : ∀ G' H' σ', Ex G G' → SI K F G' H' (r' ++ (tm ++ [.ls acc'])) (σ' ++ (us ++ [some (.ref Dn)])) → r'.length = σ'.length → wipe σ' own = wipe σ own → Nx H') :
    ∃ W : Nat → Nat → Hp → Prop, (∃ m, W 0 m H) ∧ ∀ i m H, W i m H → (J.stop i H ∧ Nx H) ∨ (J.go i H ∧ ∃ N : Hp → Prop, (∀ H', N H' → ∃ m', m' < m ∧ W (i + 1) m' H') ∧ ∀ x H', J.yld i H x H' → g x (wipe σ own) H' fun σ2 H2 => wipe σ2 own = wipe σ own ∧ tt σ2 H2 fun b H3 =>
      if b = true then te σ2 H3 fun y H4 => ∃ ac, H4 Dn = some (.lst ac) ∧ ac.length < sizeLine ∧ N (upd H4 Dn (.lst (ac ++ [y]))) else N H3) := by
  refine ⟨fun i m H' => i ≤ l.length ∧ m = l.length - i ∧ ∃ G1 r1 ac σ1, Ex G G1 ∧ SI K F G1 H' (r1 ++ (tm ++ [.ls ac])) (σ1 ++ (us ++ [some (.ref Dn)])) ∧ r1.length = σ1.length ∧ wipe σ1 own = wipe σ own ∧ compD h b e own (l.drop i) r1 ac = some (acc', r'), ⟨l.length, Nat.zero_le _, rfl, G, r, acc, σ0, Ex.refl G, I, hl, hw0, e0⟩, ?_⟩
  rintro i m H1 ⟨hi, rfl, G1, r1, ac, σ1, x1, I1, l1, w1, e1⟩
  by_cases c : i < l.length
  · have hd : l[i]? = some l[i] := List.getElem?_eq_getElem c
    obtain ⟨go, yl⟩ := (hJ F G1 H1 _ _ (x0.trans x1) I1 i).1 _ hd
    rw [List.drop_eq_getElem_cons c] at e1
    obtain ⟨r2, e2, e3⟩ := Option.bind_eq_some_iff.mp (show (h (wipeT r1 own) (.fz l[i])).bind _ = _ from e1)
    obtain ⟨⟨k, r3⟩, e4, e5⟩ := Option.bind_eq_some_iff.mp e3
    refine Or.inr ⟨go, fun H3 => ∃ G3 r3 ac3 σ3, Ex G G3 ∧ SI K F G3 H3 (r3 ++ (tm ++ [.ls ac3])) (σ3 ++ (us ++ [some (.ref Dn)])) ∧ r3.length = σ3.length ∧ wipe σ3 own = wipe σ own ∧ compD h b e own (l.drop (i + 1)) r3 ac3 = some (acc', r'), fun H3 z => ⟨l.length - (i + 1), by omega, c, rfl, z⟩, fun x H2 y => ?_⟩
    obtain ⟨G2, x2, I2, q2⟩ := yl x H2 y
    have J2 := I2.wiped l1 own
    rw [w1] at J2
    have lw : (wipeT r1 own).length = (wipe σ own).length := by rw [wipeT_len, wipe_length, l1, wipe_len w1]
    have J3 : SI K F G2 H2 (wipeT r1 own ++ (.fz l[i]) :: (tm ++ [.ls ac])) (wipe σ own ++ some x :: (us ++ [some (.ref Dn)])) := by
      obtain ⟨f, hr, hf⟩ := J2.own
      obtain ⟨g1, g2, k1, k2, k3, k4, k5⟩ := hr.split lw
      have m : RtL K G2 H2 (.fz l[i] :: (tm ++ [.ls ac])) (some x :: (us ++ [some (.ref Dn)])) g2 := .cons (g := fun _ => False) (.fz q2) k2 (fun b hb => hb.elim) (fun b hb => hb) (fun b hb => hb.elim)
      exact J2.same hf (m.app k1 k5) fun b hb => hb.elim (k3 b) (k4 b)
    refine hg F (fun j => if own.contains j then none else (wipe σ own)[j]?) G2 H2 _ _ (.fz l[i]) x _ _ r2 (fun j hj => by rw [if_pos hj]) J3 lw (fun j v hv => ?_) e2 _ fun s3 G3 H3 x3 I3 l3 m3 p3 => ?_
    · dsimp only at hv
      split at hv
      · cases hv
      · exact hv
    have w3 : wipe s3 own = wipe σ own := by
      rw [← wipe_idem (s := σ)]
      refine wipe_same m3 fun j cj => ?_
      by_cases hj : j < (wipe σ own).length
      · rw [List.getElem?_eq_getElem hj]
        exact p3 j _ (by dsimp only; rw [if_neg (by simpa using cj), List.getElem?_eq_getElem hj])
      · rw [List.getElem?_eq_none (by omega), List.getElem?_eq_none (by omega)]
    refine ⟨w3, ?_⟩
    have xx := (x1.trans x2).trans x3
    refine hb F G3 H3 r2 s3 _ _ k r3 I3 l3 e4 _ fun G4 H4 x4 I4 l4 => ?_
    cases k with
    | false => exact ⟨G4, r3, ac, s3, xx.trans x4, I4, l4, w3, e5⟩
    | true =>
      obtain ⟨⟨t, r5⟩, e6, e7⟩ := Option.bind_eq_some_iff.mp (show (e r3).bind _ = _ from e5)
      dsimp only at e7
      split at e7
      · rename_i cl
        rw [if_pos rfl]
        refine he F G4 H4 r3 s3 _ _ t r5 I4 l4 e6 _ fun y G5 H5 x5 I5 l5 => ?_
        have I6 : SI K F G5 H5 ((r5 ++ (tm ++ [.ls ac])) ++ [t]) ((s3 ++ (us ++ [some (.ref Dn)])) ++ [some y]) := by simpa only [List.append_assoc] using I5
        have lt : tm.length = us.length := by have := I.len; simp at this; omega
        have ix : (r5 ++ (tm ++ [T.ls ac]))[(r5 ++ tm).length]? = some (.ls ac) := by
          rw [← List.append_assoc, List.getElem?_append_right (Nat.le_refl _)]
          simp
        obtain ⟨a, vs, z1, z2, z3, J6⟩ := I6.push (by simp; omega) ix
        have hx : (s3 ++ (us ++ [some (V.ref Dn)]))[(r5 ++ tm).length]? = some (some (.ref Dn)) := by
          rw [← List.append_assoc, List.getElem?_append_right (by simp; omega)]
          simp [l5, lt]
        rw [hx] at z1
        cases z1
        refine ⟨vs, z2, bigl (z3 ▸ cl), G5, r5, ac ++ [t], s3, (xx.trans x4).trans x5, ?_, l5, w3, e7⟩
        rw [← List.append_assoc, List.set_append_right _ _ (Nat.le_refl _)] at J6
        simpa using J6
      · cases e7
  · have ei : i = l.length := by omega
    subst ei
    rw [List.drop_length] at e1
    cases e1
    exact Or.inl ⟨(hJ F G1 H1 _ _ (x0.trans x1) I1 l.length).2 (Nat.le_refl _), done G1 H1 σ1 x1 I1 l1 w1⟩
def dComp (f : ID) (h : GD) (b : BD) (e : MD) (own : List Nat) : ED := fun r => (f r).bind fun p => (compD h b e own p.1 p.2 []).bind fun q => some (.nw (.ls q.1), restore p.2 own q.2)
theorem SI.newList {F : Fx} {G H : Hp} {r : List T} {x : List (Option V)} (I : SI K F G H r x) {p : Addr} (h : H p = none) : SI K F G (upd H p (.lst [])) (r ++ [.ls []]) (x ++ [some (.ref p)]) := SI.pack (ts := []) (vs := []) (by simpa using I) I.len h
theorem comp_end {F : Fx} {G0 G' H0 H' : Hp} {r0 r' : Env} {s σ' : L2.St} {tm : List T} {us : List (Option V)} {acc : List T} {own : List Nat} {y : Option V} (I0 : SI K F G0 H0 (r0 ++ tm) (s ++ us)) (l0 : r0.length = s.length) (xg : Ex G0 G') (I : SI K F G' H' (r' ++ (tm ++ [.ls acc])) (σ' ++ (us ++ [y]))) (hl : r'.length = σ'.length) (w : wipe σ' own = wipe s own) :
    SI K F G' H' (restore r0 own r' ++ (tm ++ [.ls acc])) (s ++ (us ++ [y])) ∧ (restore r0 own r').length = s.length := by
  obtain ⟨f, hr, _⟩ := I0.own
  obtain ⟨g1, _, k1, _⟩ := hr.split l0
  have J := I.restored hl k1 xg own
  rw [resV_get (wipe_len w) fun i c => of_wipe w c] at J
  exact ⟨J, by rw [restore_len, hl, wipe_len w]⟩
theorem de_comp {wi : TI} {g : TG} {tt : TT} {te : TE} {f : ID} {h : GD} {b : BD} {e : MD} {own : List Nat} (hi : DI K wi f) (hg : DG K (fun i => own.contains i) g h) (hb : DT K tt b) (he : DM K te e) : DE K (tLc wi g tt te own) (dComp f h b e own) := fun F G H r s tm us w r' I hl ee Q q => by
  obtain ⟨⟨l, r1⟩, e1, ee⟩ := Option.bind_eq_some_iff.mp ee
  obtain ⟨⟨acc, r2⟩, e2, ee⟩ := Option.bind_eq_some_iff.mp ee
  cases ee
  refine hi F G H r s tm us l r1 I hl e1 _ fun J G1 H1 x1 I1 l1 hJ Dn hD => ?_
  have I2 : SI K F G1 (upd H1 Dn (.lst [])) (r1 ++ (tm ++ [.ls []])) (s ++ (us ++ [some (.ref Dn)])) := by simpa only [List.append_assoc] using I1.newList hD
  exact comp_core hJ hg hb he e2 I2 (Ex.refl G1) rfl l1 fun G' H' σ' xg I3 l3 w3 => by
    obtain ⟨J3, m3⟩ := comp_end I1 l1 xg I3 l3 w3
    exact q _ G' H' (x1.trans xg) J3 m3 trivial
/-- two clauses -/
def comp2D (h : GD) (b : BD) (f1 : ID) (h1 : GD) (b1 : BD) (e : MD) (own own1 : List Nat) : List D → Env → List T → Option (List T × Env)
  | [], r, acc => some (acc, r)
  | d :: l, r, acc => (h (wipeT r own) (.fz d)).bind fun r1 => (b r1).bind fun p => if p.1 = true then (f1 p.2).bind fun q => (compD h1 b1 e own1 q.1 q.2 acc).bind fun z => comp2D h b f1 h1 b1 e own own1 l z.2 z.1 else comp2D h b f1 h1 b1 e own own1 l p.2 acc
def dComp2 (f : ID) (h : GD) (b : BD) (f1 : ID) (h1 : GD) (b1 : BD) (e : MD) (own own1 : List Nat) : ED := fun r => (f r).bind fun p => (comp2D h b f1 h1 b1 e own own1 p.1 p.2 []).bind fun q => some (.nw (.ls q.1), restore p.2 own q.2)
theorem de_comp2 {wi wi1 : TI} {g g1 : TG} {tt tt1 : TT} {te : TE} {f f1 : ID} {h h1 : GD} {b b1 : BD} {e : MD} {own own1 : List Nat} (hv : ∀ i ∈ own1, i ∈ own) (hi : DI K wi f) (hg : DG K (fun i => own.contains i) g h) (hb : DT K tt b) (hi1 : DI K wi1 f1) (hg1 : DG K (fun i => own1.contains i) g1 h1) (hb1 : DT K tt1 b1) (he : DM K te e) :
    DE K (tLc2 wi g tt wi1 g1 tt1 te own own1) (dComp2 f h b f1 h1 b1 e own own1) := fun F G H r s tm us w r' I hl ee Q q => by
  obtain ⟨⟨l, r1⟩, e1, ee⟩ := Option.bind_eq_some_iff.mp ee
  obtain ⟨⟨acc, r2⟩, e2, ee⟩ := Option.bind_eq_some_iff.mp ee
  cases ee
  refine hi F G H r s tm us l r1 I hl e1 _ fun J G1 H1 x1 I1 l1 hJ Dn hD => ?_
  have I2 : SI K F G1 (upd H1 Dn (.lst [])) (r1 ++ (tm ++ [.ls []])) (s ++ (us ++ [some (.ref Dn)])) := by simpa only [List.append_assoc] using I1.newList hD
  refine ⟨fun i m H' => i ≤ l.length ∧ m = l.length - i ∧ ∃ G2 rr ac σ1, Ex G1 G2 ∧ SI K F G2 H' (rr ++ (tm ++ [.ls ac])) (σ1 ++ (us ++ [some (.ref Dn)])) ∧ rr.length = σ1.length ∧ wipe σ1 own = wipe s own ∧ comp2D h b f1 h1 b1 e own own1 (l.drop i) rr ac = some (acc, r2), ⟨l.length, Nat.zero_le _, rfl, G1, r1, [], s, Ex.refl G1, I2, l1, rfl, e2⟩, ?_⟩
  rintro i m H3 ⟨hi, rfl, G3, r3, ac, σ3, x3, I3, l3, w3, e3⟩
  by_cases c : i < l.length
  · have hd : l[i]? = some l[i] := List.getElem?_eq_getElem c
    obtain ⟨go, yl⟩ := (hJ F G3 H3 _ _ x3 I3 i).1 _ hd
    rw [List.drop_eq_getElem_cons c] at e3
    obtain ⟨r4, e4, e5⟩ := Option.bind_eq_some_iff.mp (show (h (wipeT r3 own) (.fz l[i])).bind _ = _ from e3)
    obtain ⟨⟨k, r5⟩, e6, e7⟩ := Option.bind_eq_some_iff.mp e5
    refine Or.inr ⟨go, fun H' => ∃ G2 rr ac σ1, Ex G1 G2 ∧ SI K F G2 H' (rr ++ (tm ++ [.ls ac])) (σ1 ++ (us ++ [some (.ref Dn)])) ∧ rr.length = σ1.length ∧ wipe σ1 own = wipe s own ∧ comp2D h b f1 h1 b1 e own own1 (l.drop (i + 1)) rr ac = some (acc, r2), fun H' z => ⟨l.length - (i + 1), by omega, c, rfl, z⟩, fun x H4 y => ?_⟩
    obtain ⟨G4, x4, I4, q4⟩ := yl x H4 y
    have J2 := I4.wiped l3 own
    rw [w3] at J2
    have lw : (wipeT r3 own).length = (wipe s own).length := by rw [wipeT_len, wipe_length, l3, wipe_len w3]
    have J3 : SI K F G4 H4 (wipeT r3 own ++ (.fz l[i]) :: (tm ++ [.ls ac])) (wipe s own ++ some x :: (us ++ [some (.ref Dn)])) := by
      obtain ⟨ff, hr, hf⟩ := J2.own
      obtain ⟨g1, g2, k1, k2, k3, k4, k5⟩ := hr.split lw
      have m : RtL K G4 H4 (.fz l[i] :: (tm ++ [.ls ac])) (some x :: (us ++ [some (.ref Dn)])) g2 := .cons (g := fun _ => False) (.fz q4) k2 (fun b hb => hb.elim) (fun b hb => hb) (fun b hb => hb.elim)
      exact J2.same hf (m.app k1 k5) fun b hb => hb.elim (k3 b) (k4 b)
    refine hg F (fun j => if own.contains j then none else (wipe s own)[j]?) G4 H4 _ _ (.fz l[i]) x _ _ r4 (fun j hj => by rw [if_pos hj]) J3 lw (fun j v hv => ?_) e4 _ fun s5 G5 H5 x5 I5 l5 m5 p5 => ?_
    · dsimp only at hv
      split at hv
      · cases hv
      · exact hv
    have w5 : wipe s5 own = wipe s own := by
      rw [← wipe_idem (s := s)]
      refine wipe_same m5 fun j cj => ?_
      by_cases hj : j < (wipe s own).length
      · rw [List.getElem?_eq_getElem hj]
        exact p5 j _ (by dsimp only; rw [if_neg (by simpa using cj), List.getElem?_eq_getElem hj])
      · rw [List.getElem?_eq_none (by omega), List.getElem?_eq_none (by omega)]
    refine ⟨w5, ?_⟩
    have xx := (x3.trans x4).trans x5
    refine hb F G5 H5 r4 s5 _ _ k r5 I5 l5 e6 _ fun G6 H6 x6 I6 l6 => ?_
    cases k with
    | false => exact ⟨G6, r5, ac, s5, xx.trans x6, I6, l6, w5, e7⟩
    | true =>
      obtain ⟨⟨l7, r7⟩, e8, e9⟩ := Option.bind_eq_some_iff.mp (show (f1 r5).bind _ = _ from e7)
      obtain ⟨⟨ac8, r8⟩, e10, e11⟩ := Option.bind_eq_some_iff.mp e9
      rw [if_pos rfl]
      refine hi1 F G6 H6 r5 s5 _ _ l7 r7 I6 l6 e8 _ fun J1 G7 H7 x7 I7 l7' hJ1 => ?_
      refine comp_core hJ1 hg1 hb1 he e10 I7 (Ex.refl G7) rfl l7' fun G' H' σ' xg I9 l9 w9 => ?_
      refine ⟨G', r8, ac8, σ', ((xx.trans x6).trans x7).trans xg, I9, l9, ?_, e11⟩
      rw [← w5]
      exact wipe_same (wipe_len w9) fun j cj => of_wipe w9 fun z => cj (hv j z)
  · have ei : i = l.length := by omega
    subst ei
    rw [List.drop_length] at e3
    cases e3
    refine Or.inl ⟨(hJ F G3 H3 _ _ x3 I3 l.length).2 (Nat.le_refl _), ?_⟩
    obtain ⟨J3, m3⟩ := comp_end I1 l1 x3 I3 l3 w3
    exact q _ G3 H3 (x1.trans x3) J3 m3 trivial
end
end Q

set_option Elab.async false
set_option linter.all false
set_option maxRecDepth 100000
set_option maxHeartbeats 2000000
namespace Q
open PySem PySem.Spec PyProof.Rows L2
section
variable {K : PySem.W.Frag}
/-! ### isinstance -/
inductive Cl where
  | int | bool | str | tuple | list
def Cl.nm : Cl → String
  | .int => "int"
  | .bool => "bool"
  | .str => "str"
  | .tuple => "tuple"
  | .list => "list"
def D.ty : D → Option String
  | .non => some "NoneType"
  | .bl _ => some "bool"
  | .int _ => some "int"
  | .str _ => some "str"
  | .tup _ => some "tuple"
  | .lst _ => some "list"
  | .scr _ => some "list"
  | .dk _ _ => some "dict"
  | _ => none
def D.isi : D → Cl → Option Bool
  | .non, _ => some false
  | .bl _, .int => some true
  | .bl _, .bool => some true
  | .bl _, _ => some false
  | .int _, .int => some true
  | .int _, _ => some false
  | .str _, .str => some true
  | .str _, _ => some false
  | .tup _, .tuple => some true
  | .tup _, _ => some false
  | .lst _, .list => some true
  | .lst _, _ => some false
  | .scr _, .list => some true
  | .scr _, _ => some false
  | .dk _ _, _ => some false
  | _, _ => none
theorem ty_rp {H : Hp} {d : D} {v : V} {t : String} (h : Rp K H d v) (e : d.ty = some t) : TyX K H v (.type t) := by
  cases h with
  | non => cases e; exact .base .non
  | bl b => cases e; exact .base (.bl b)
  | int i => cases e; exact .base (.int i)
  | str x => cases e; exact .base (.str x)
  | lst a b => cases e; exact .base (.lst a)
  | tup a b =>
    cases e
    rcases a with (a | ⟨o, a⟩) | ⟨o, its, n, a, c, _⟩
    · exact .base (.tup a)
    · exact .fTuple a
    · exact .kTuple a c
  | scr a =>
    cases e
    rcases a with (a | ⟨o, a⟩) | ⟨o, its, n, a, c, _⟩
    · exact .base (.lst a)
    · exact .base (.frz a)
    · exact .kList a c
  | dk a _ _ =>
    cases e
    rcases a with a | ⟨o, a⟩
    · exact .base (.dK a)
    · exact .fDict a
  | dt _ _ _ => cases e
  | exc _ => cases e
theorem isi_kit {d : D} {c : Cl} {b : Bool} (e : d.isi c = some b) : ∃ t, d.ty = some t ∧ kitB t c.nm = some b := by
  cases d <;> cases c <;> first
    | (cases e; exact ⟨_, rfl, by decide +kernel⟩)
    | (cases e)
def dIsi (c : Cl) (f : FD) : ED := fun r => (f r).bind fun p => (p.1.isi c).bind fun b => some (.sh (.bl b), p.2)
theorem de_isi {c : Cl} {te : TE} {f : FD} (h : DF K te f) : DE K (tCB (rIsi K) (tCons te (tCons (tC (.ty c.nm)) tNil))) (dIsi c f) := fun F G H r s tm us w r' I hl e Q q => by
  obtain ⟨⟨d, r1⟩, e1, e⟩ := Option.bind_eq_some_iff.mp e
  obtain ⟨b, e2, e⟩ := Option.bind_eq_some_iff.mp e
  cases e
  refine h F G H r s tm us d _ I hl e1 _ fun v G1 H1 x1 I1 l1 hd => ?_
  obtain ⟨t, z1, z2⟩ := isi_kit e2
  exact ⟨v, .ty c.nm, .type t, .type c.nm, b, rfl, .ty _, ty_rp (Rp.sub I1.pl I1.gh _ _ hd) z1, kit_ty z2, q _ G1 H1 x1 (by simpa only [W.tm, W.vl, List.append_nil] using I1) l1 (.bl b)⟩
/-- isinstance(e, c), e an error that was kept -/
def rIsX (K : PySem.W.Frag) : List V → Hp → VK → Prop := fun xs H Q => ∃ (a c : Addr) (cc : V) (cv : Value) (b : Bool), xs = [.ref a, cc] ∧ Rd H a (EO c a) ∧ ClsV cc cv ∧ ExcC K c ∧ PySem.W.kitOne K (.ref c) cv = some b ∧ Q (.bl b) H
theorem call_isX {X : Cx} : CallR X (.builtin "isinstance") (rIsX X.K) := by
  intro pins s σ H xs us Q I rel told
  obtain ⟨a, c, cc, cv, b, rfl, rd, cl, C, kit, q⟩ := told
  match us, rel with
  | [u1, u2], .cons rx (.cons rt .nil) =>
    cases rx
    have e2 := cl.eq rt
    subst e2
    have ob : ∃ (oe : Obj) (vs : Array Value), s.heap.get? a = some oe ∧ Zc (.ref c) none oe ∧ oe.data = .fields vs := by
      rcases rd with z | ⟨o, z⟩
      · exact (I.hok a _ z).1
      · exact (I.hok a _ z).2.1
    obtain ⟨⟨c0, d0, dat, sl⟩, vs, hget, ⟨z1, z2⟩, z3⟩ := ob
    dsimp only at z1 z2 z3
    subst z1 z2 z3
    have inst : PySem.W.InstAt s.heap a ⟨.ref c, none, .fields vs, sl⟩ c none := ⟨hget, rfl, rfl, trivial⟩
    exact PySem.W.kia_one (PySem.W.handS_kitx_exc C.hg C.hk C.hs C.hd C.ha C.hn C.ht C.hm) I.kIn inst kit (fun z => nomatch z) fun tk => ⟨.bl b, H, I.kept (t' := tk) fun _ _ z => z, rfl, q⟩
open Classical in
noncomputable def dIsX (K : PySem.W.Frag) (cv : Value) (f : FD) : ED := fun r => (f r).bind fun p => match p.1 with
  | .exc c => if ExcC K c then (PySem.W.kitOne K (.ref c) cv).bind fun b => some (.sh (.bl b), p.2) else none
  | _ => none
theorem de_isX {cc : V} {cv : Value} {te : TE} {f : FD} (hc : ClsV cc cv) (h : DF K te f) : DE K (tCB (rIsX K) (tCons te (tCons (tC cc) tNil))) (dIsX K cv f) := fun F G H r s tm us w r' I hl e Q q => by
  obtain ⟨⟨d, r1⟩, e1, e⟩ := Option.bind_eq_some_iff.mp e
  dsimp only at e
  split at e
  · split at e
    · rename_i c hx
      obtain ⟨b, e2, e⟩ := Option.bind_eq_some_iff.mp e
      cases e
      refine h F G H r s tm us _ _ I hl e1 _ fun v G1 H1 x1 I1 l1 hd => ?_
      cases hd with | exc rd => exact ⟨_, c, cc, cv, b, rfl, sub_rd trivial I1.gh rd, hc, hx, e2, q _ G1 H1 x1 (by simpa only [W.tm, W.vl, List.append_nil] using I1) l1 (.bl b)⟩
    · cases e
  · cases e
/-! ### repr -/
def rRep (K : PySem.W.Frag) : List V → Hp → VK → Prop := fun xs H Q => ∃ v x, xs = [v] ∧ Dp K H v x ∧ x.showable = true ∧ x.depth ≤ 100 ∧ x.shown.length ≤ sizeLine ∧ Q (.str x.shown) H
theorem noDict {h : Heap} : ∀ {v : V} {x : PyData}, True → True := fun _ => trivial
mutual
theorem dp_nodict {H : Hp} : ∀ (v : V) (x : PyData), Dp K H v x → x.hasDict = false
  | _, _, .non => by unfold PyData.hasDict; rfl
  | _, _, .bl b => by unfold PyData.hasDict; rfl
  | _, _, .int i => by unfold PyData.hasDict; rfl
  | _, _, .str z => by unfold PyData.hasDict; rfl
  | _, _, .lst h q => by unfold PyData.hasDict; exact dpL_nodict _ _ q
  | _, _, .tup h q => by unfold PyData.hasDict; exact dpL_nodict _ _ q
theorem dpL_nodict {H : Hp} : ∀ (v : List V) (x : List PyData), DpAll K H v x → PyData.hasDictAll x = false
  | _, _, .nil => by unfold PyData.hasDictAll; rfl
  | _, _, .cons h q => by unfold PyData.hasDictAll; rw [dp_nodict _ _ h, dpL_nodict _ _ q]; rfl
end
theorem call_rep {X : Cx} (gu : X.A.guards = some []) {k : Nat} (hr : Room k X.A) : CallR X (.builtin "repr") (rRep X.K) := by
  intro pins s σ H xs us Q I rel told
  obtain ⟨v, x, rfl, dp, sh, dep, len, q⟩ := told
  have un := hr.un
  match us, rel with
  | [u], .cons rx .nil =>
    have leaf : ∀ tk, EP X pins σ Q (.str x.shown tk) { s with toks := s.toks + 1 } := fun tk => ⟨.str x.shown, H, I.tok _, ⟨_, rfl⟩, q⟩
    have nd := dp_nodict _ _ dp
    obtain ⟨as, rd⟩ := Dp.reads I x v u dp rx
    cases dp with
    | non =>
      cases rx
      simp only [PyData.shown] at leaf
      exact call_repr_gives (typeIs_none s) F.slot_NoneType_repr F.entry_NoneType_repr (F.args_NoneType_repr_1 _) gives_none_repr (leaf _) (hx := by decide)
    | bl b =>
      cases rx
      simp only [PyData.shown] at leaf
      exact call_repr_gives (PySem.typeIs_bool s b) F.slot_bool_repr F.entry_bool_repr (F.args_bool_repr_1 _) (gives_bool_repr b) (leaf _) (hx := by cases b <;> decide)
    | int i =>
      obtain ⟨t, rfl⟩ := rx
      simp only [PyData.shown] at leaf
      simp only [PyData.showable, decide_eq_true_eq] at sh
      exact call_repr_gives (typeIs_int s i t) F.slot_int_repr F.entry_int_repr (F.args_int_repr_1 _) (gives_int_repr i t sh) (leaf _) (hx := int_text_fits sh)
    | str z =>
      obtain ⟨t, rfl⟩ := rx
      simp only [PyData.shown] at leaf len
      exact call_repr_gives (typeIs_str s z t) F.slot_str_repr F.entry_str_repr (F.args_str_repr_1 _) (gives_str_repr z t) (leaf _) (hx := len)
    | lst a b =>
      cases rx
      exact repr_of_reads' rd sh (fun z => by rw [nd] at z; cases z) gu (by omega) (fun _ _ z => z) (fun h' t tk kp => ⟨.str _, H, I.kept (t' := tk) kp, ⟨_, rfl⟩, q⟩) len
    | tup a b =>
      cases rx
      exact repr_of_reads' rd sh (fun z => by rw [nd] at z; cases z) gu (by omega) (fun _ _ z => z) (fun h' t tk kp => ⟨.str _, H, I.kept (t' := tk) kp, ⟨_, rfl⟩, q⟩) len
def gRep : List D → Option Rs
  | [a] => a.py.bind fun x => if x.showable = true ∧ x.depth ≤ 100 ∧ x.shown.length ≤ 1000000 then some (.val (.str x.shown)) else none
  | _ => none
theorem dc_rep : DC K (rRep K) gRep := fun G H xs vs z sb pl q e Q k => by
  unfold gRep at e
  split at e
  · obtain ⟨x, e1, e⟩ := Option.bind_eq_some_iff.mp e
    split at e
    · rename_i c
      cases e
      cases q with | cons p q => cases q; exact ⟨_, x, rfl, py_dp _ _ x (Rp.sub pl sb _ _ p) e1, c.1, c.2.1, big c.2.2, k _ (.str _)⟩
    · cases e
  · cases e
end
/-! ### try: .. except x as n: m = n -/
section
variable {X : Cx} {pins : List (Addr × Obj)} {σ : L2.St} {H : Hp} {s : Shared}
theorem Inv.track {a C : Addr} {oe : Obj} {vs : Array Value} (I : Inv X ((a, oe) :: pins) σ H s) (hz : Zc (.ref C) none oe) (hd : oe.data = .fields vs) (hx : X.ex = []) (h0 : X.s_0.heap.get? a = none) (hp : ∀ p ∈ X.pn ++ pins, p.1 ≠ a) : Inv X pins σ (upd H a (EO C a)) s := by
  obtain ⟨hg, hn, nl, nf, nc⟩ := I.pin (a, oe) (List.mem_append.mpr (Or.inr List.mem_cons_self))
  have was : ∀ b o, H b = some o → upd H a (EO C a) b = some o := fun b o e => by rw [upd_ne (ne_of_none e hn)]; exact e
  refine ⟨I.ok, I.os, I.bare, ⟨I.base.keep, I.base.slot, fun b o e1 e2 e3 => ?_, I.base.there, fun b xs e => was _ _ (I.base.tups b xs e), fun b o u e => was _ _ (I.base.frzs b o u e), fun b ps e => ?_⟩, I.loc, I.cell, ?_, fun x c e => ?_, fun p hpm => ?_, ?_, I.len⟩
  · rw [upd_ne fun z => by subst z; rw [h0] at e1; cases e1]
    exact I.base.free b o e1 e2 e3
  · obtain ⟨more, z⟩ := I.base.tbls b ps e
    exact ⟨more, was _ _ z⟩
  · rw [upd_ne fun z => nl z.symm]
    exact I.free
  · rw [upd_ne fun z => ?_]
    · exact I.freeC x c e
    · subst z
      obtain ⟨v, oc, z1, z3⟩ := I.cell x c e
      rw [show s.heap.get? c = some oe from hg] at z1
      cases z1
      exact nc v z3
  · obtain ⟨z1, z2, z3⟩ := I.pin p (by
      rcases List.mem_append.mp hpm with z | z
      · exact List.mem_append.mpr (Or.inl z)
      · exact List.mem_append.mpr (Or.inr (List.mem_cons_of_mem _ z)))
    exact ⟨z1, by rw [upd_ne (hp p hpm)]; exact z2, z3⟩
  · exact I.hok.laidN (fun _ _ z => z) hn ⟨⟨oe, vs, hg, hz, hd⟩, ⟨oe, hg⟩, fun h1 h2 ⟨o, w, k1, k2, k3⟩ k => ⟨o, w, k o k1, k2, k3⟩⟩
end
/-- what 'except x as n: m = n' wishes of an error of the body that x takes -/
def wKeep (K : PySem.W.Frag) (c : Value) (i : Nat) (tsu : TS) (D : Ends) : WX := fun cls d σ H => PySem.W.exmOne K cls c = some true ∧ d = none ∧ ∃ C : Addr, cls = .ref C ∧ ∀ a, H a = none → tsu { nx := fun σ' H' => H' a = none ∧ D.nx (σ'.set i none) (upd H' a (EO C a)), rt := fun _ _ => False } (σ.set i (some (.ref a))) H
def tTry (tb : WX → TS) (K : PySem.W.Frag) (c : Value) (i : Nat) (tsu : TS) : TS := fun D σ H => tb (wKeep K c i tsu D) D σ H
section
variable {X : Cx} {x n : Str} {c : Value} {i : Nat} {body suite : List Stmt} {b₀ : Stmt} {np pos pos' : Pos} {tb : WX → TS} {tsu : TS}
theorem ps_keep (hs : X.stack = X.env :: X.outer) (hf : X.env.frame = some X.env.locals) (hex : X.ex = []) (hN : X.N.Nodup) (hi : X.N[i]? = some n) (hln : X.env.kindOf n = some .local) (hc : Names X x c)
    (hb : ∀ (U : WX) (pn : List (Addr × Obj)) (xe : Value → Shared → Prop), Takes (X.tr pn xe) U → PassesOwn (model X.prog X.w) X.A X.env xe → PSs (X.tr pn xe) body (tb U))
    (hsu : ∀ (a : Addr) (oe : Obj) (cls : Value) (d : Option Addr) (pn : List (Addr × Obj)), Zc cls d oe → (∃ vs, oe.data = .fields vs) → PSs (X.suite a ((a, oe) :: pn)) (b₀ :: suite) tsu) :
    PS X (.Try body [.ExceptHandler (some (.Name x np)) (some n) (b₀ :: suite) pos'] [] [] pos) (tTry tb X.K c i tsu) := by
  refine ⟨fun pins s σ H D I told => wpAny_Try_except ?_⟩
  have ok := I.ok
  have frames : X.A.frames = some (X.env :: X.outer) := by rw [ok.frames, hs]
  refine wpAny_mono ((hb (wKeep X.K c i tsu D) (X.pn ++ pins) _ ?caught PassesOwn.looking).run [] s σ H D (I.toTry _) told) (fun f s1 hsp => ?through) (fun e s1 he => he)
  case through =>
    cases f with
    | next => obtain ⟨σ', H', J, z⟩ := hsp; exact wpAny_execs_nil ⟨σ', H', J.ofTry ok, z⟩
    | brk => obtain ⟨σ', H', J, z⟩ := hsp; exact ⟨σ', H', J.ofTry ok, z⟩
    | cont => obtain ⟨σ', H', J, z⟩ := hsp; exact ⟨σ', H', J.ofTry ok, z⟩
    | ret u => obtain ⟨v, σ', H', J, rv, z⟩ := hsp; exact ⟨v, σ', H', J.ofTry ok, rv, z⟩
  case caught =>
    intro u s' air
    obtain ⟨a, B, sI, pins', σ', H', cls, d, rfl, J', nb, up, sky, na, os, ag, hit, rfl, C, rfl, wish⟩ := air
    have J : Inv X pins σ' H' sI := J'.ofTry ok
    have gone : B.get? a = none := by
      rcases sky with ⟨_, z, _⟩ | z | z
      · exact z
      · exact z.2.1
      · exact z.2.1
    rw [hs] at sky
    show wpAny (model X.prog X.w) X.A (noteFrame (.ref a) X.env) _ _ _
    refine Sky.land Zc.steady frames hf sky fun h3 fl3 up3 => ?_
    obtain ⟨oe3, vs3, at3, z3, d3⟩ := fl3.there
    have J3 : Inv X pins σ' H' { s' with heap := h3 } := J.landed nb fl3.1 (up.trans up3) os ag
    have noFrame : a ∉ frs (X.env :: X.outer) := fun hm => by
      obtain ⟨_, o1, g1, nofl⟩ := fl3.2.2.1.mem hm
      rw [at3] at g1
      cases g1
      exact nofl _ d3
    have nL : a ≠ X.env.locals := fun z => noFrame (List.mem_filterMap.mpr ⟨X.env, List.mem_cons_self, by rw [hf, z]⟩)
    have nF : a ∉ X.fs := fun hm => noFrame (by
      obtain ⟨e, he, z⟩ := List.mem_filterMap.mp hm
      exact List.mem_filterMap.mpr ⟨e, List.mem_cons_of_mem _ he, z⟩)
    have newI : sI.heap.get? a = none := by
      cases z : sI.heap.get? a with
      | none => rfl
      | some o =>
        have := nb a o z (by rw [hs]; exact noFrame)
        rw [gone] at this
        cases this
    have new0 : X.s_0.heap.get? a = none := by
      cases z : X.s_0.heap.get? a with
      | none => rfl
      | some o =>
        obtain ⟨o', w⟩ := J.base.there a o z (by rw [hex]; simp)
        rw [newI] at w
        cases w
    have apart : ∀ p ∈ X.pn ++ pins, p.1 ≠ a := fun p hp z => by
      have := (J.pin p hp).1
      rw [z, newI] at this
      cases this
    have S3 := J3.suite at3 d3 na nL nF
    refine wpAny_handleBy_cons (codeAny_handlers_test ?_) (by intro z; cases z)
    have ty : PySem.W.Looks (model X.prog X.w) h3 (typeOf (.ref a)) (.ref C) := fun A Q E s k q => wpAny_typeOf_ref (k _ _ at3) (by rw [z3.1]; exact q)
    have takes := PySem.W.exm_one (M := model X.prog X.w) J3.kIn ty hit
    have name : ∀ {Q : Value → Shared → Prop} {E : Value → Shared → Prop}, Q c { s' with heap := h3 } → wpAny (model X.prog X.w) (X.A.mark (some (.ref a))) (eval (.Name x np) X.env) Q E { s' with heap := h3 } := fun {Q E} q => by
      obtain ⟨gl, db, m | ⟨m, bl, nn⟩⟩ := hc
      · exact ld_glob (X := X.suite a ((a, oe3) :: (X.pn ++ pins))) S3 gl m q db
      · exact ld_blt (X := X.suite a ((a, oe3) :: (X.pn ++ pins))) S3 gl m bl q nn db
    refine name (takes.here (codeAny_handlers_suite_as ?_))
    refine HandSPX.lands_againZ fl3 fun h4 fl4 up4 => ?_
    obtain ⟨oe4, vs4, at4, z4, d4⟩ := fl4.there
    have J4 : Inv X pins σ' H' { s' with heap := h4 } := J.landed nb fl4.1 ((up.trans up3).trans up4) os ag
    refine store_ok (X := X.suite a ((a, oe4) :: (X.pn ++ pins))) (v := .ref a) (J4.suite at4 d4 na nL nF) hN hi (Or.inl hln) rfl (fun s5 S5 => ?_) (Or.inr hln)
    refine wpAny_mono ((hsu a oe4 (.ref C) none (X.pn ++ pins) z4 ⟨_, d4⟩).run [] s5 _ H' _ S5 (wish a na)) (fun f s6 hsp => ?_) (fun _ _ z => z.elim)
    cases f with
    | brk => obtain ⟨_, _, _, z⟩ := hsp; exact z.elim
    | cont => obtain ⟨_, _, _, z⟩ := hsp; exact z.elim
    | ret u => obtain ⟨_, _, _, _, _, z⟩ := hsp; exact z.elim
    | next =>
      obtain ⟨σ6, H6, S6, free6, z6⟩ := hsp
      have p6 := S6.pin (a, oe4) (List.mem_append.mpr (Or.inl List.mem_cons_self))
      have J6 : Inv X pins σ6 H6 s6 := S6.unsuite ok
      have K6 : Inv X ((a, oe4) :: pins) σ6 H6 s6 := J6.pins_of fun p hp => by
        · rcases List.mem_cons.mp hp with w | w
          · subst w; exact ⟨p6.1, p6.2.1, nL, nF, fun v => by rw [d4]; exact fun z => nomatch z⟩
          · exact J6.pin p (List.mem_append.mpr (Or.inr w))
      exact gone_ok K6 hN hi hln fun s7 K7 => ⟨_, _, Q.Inv.track K7 z4 d4 hex new0 apart, z6⟩
end
section
variable {K : PySem.W.Frag}
def dTry (K : PySem.W.Frag) (c : Value) (i j : Nat) (g : SD) : SD := fun r => (g r).bind fun o => match o with
  | .ex cc r1 => if PySem.W.exmOne K (.ref cc) c = some true ∧ i < r1.length ∧ i ≠ j then some (.nx (((r1.set i .un).set j (.fz (.exc cc))).set i .un)) else none
  | o => some o
theorem ds_keep {A : Nat → Bool} {X : WX} {c : Value} {i j : Nat} {tb : WX → TS} {g : SD} (hi : A i = true) (hj : A j = true) (h : ∀ U, DS K A U (tb U) g) : DS K A X (tTry tb K c i (tAsg (tVar i) (gName j))) (dTry K c i j g) := fun F P G H r s o a I p e E q => by
  obtain ⟨o1, e1, e⟩ := Option.bind_eq_some_iff.mp e
  refine h _ F P G H r s o1 a I p e1 E ?_
  cases o1 with
  | nx r1 => cases e; exact q
  | rt w r1 => cases e; exact q
  | bk r1 => cases e; exact q
  | ct r1 => cases e; exact q
  | ex cc r1 =>
    dsimp only at e
    split at e
    · rename_i hc
      cases e
      intro s' G' H' xg I' p'
      refine ⟨hc.1, rfl, cc, rfl, fun b hb => ?_⟩
      have l1 := I'.len
      refine ⟨.ref b, List.getElem?_set_self (by omega), hb, ?_⟩
      have en : Ex G' (upd G' b (EO cc b)) := Ex.new (I'.Gnone hb)
      have I1 := I'.laid hb (o := EO cc b) (fun _ _ z => HO.noConfusion z)
      have I2 : SI K F (upd G' b (EO cc b)) (upd H' b (EO cc b)) (r1 ++ []) (s' ++ []) := by simpa only [List.append_nil] using I1
      have I3 := I2.reset l1 (t := .un) (y := some (.ref b)) .un i
      have I4 := I3.reset (by simp; exact l1) (t := .fz (.exc cc)) (y := some (.ref b)) (.fz (.exc (Or.inl upd_same))) j
      have I5 := I4.reset (by simp; exact l1) (t := .un) (y := none) .un i
      refine q _ _ _ (xg.trans en) (by simpa only [List.append_nil] using I5) ?_
      exact ((p'.set (a i hi)).set (a j hj)).set (a i hi)
    · cases e
end
end Q

set_option Elab.async false
set_option linter.all false
set_option maxRecDepth 100000
set_option maxHeartbeats 2000000
namespace Q
open PySem PySem.Spec PyProof.Rows L2
/-- the caller's heap knows the script alone, if it knows anything -/
def scriptH (K : PySem.W.Frag) (a : Addr) (vs : List Value) (ns : List Int) : Hp := fun b => if b = a ∧ K.lookup a = none then some (.frz { cls := .type "list", data := .seq vs.toArray } (.lst (ns.map V.int))) else none
theorem scriptH_some {K : PySem.W.Frag} {a b : Addr} {vs : List Value} {ns : List Int} {o : HO} (h : scriptH K a vs ns b = some o) : b = a ∧ K.lookup a = none ∧ o = .frz { cls := .type "list", data := .seq vs.toArray } (.lst (ns.map V.int)) := by
  unfold scriptH at h
  split at h
  · rename_i c; cases h; exact ⟨c.1, c.2, rfl⟩
  · cases h
theorem law_g {P : Program} {w : World} {K : PySem.W.Frag} {mg mb : Str → Option Value} {k : Nat} {fa a : Addr} {fd : FuncData} {x : Str} {sp : Sp} {s₁ : Shared} {vs : List Value} {ns : List Int}
    (KX : K.In s₁.heap) (hns : s₁.heap.Ns mainGlobals mg) (hb : s₁.heap.Ns builtinsNs mb) (hbb : ∀ x : Str, x ≠ "__name__" → mb x = bootBuiltins x) (hlim : s₁.heap.NoLimit) (hg : s₁.gens = #[])
    (ha : s₁.heap.get? a = some { cls := .type "list", data := .seq vs.toArray }) (hi : IntsAre vs ns) (hl : ns.length ≤ sizeLine) (hr : Room k callerA)
    (F : ∀ base : Heap, K.In base → base.Ns mainGlobals mg → FnG P w K mg base k fa fd [x] sp) (hbind : ∀ (s : Shared) (u : Value), BindsTo s fd ⟨[u], []⟩ [(x, u)])
    (hsp : ∀ H : Hp, SqL K H a (ns.map V.int) → sp [.ref a] H (fun v _ => v = .bl true) fun _ _ _ => False) :
    codeAny (model P w) callerA (.call (.ref fa) ⟨[.ref a], []⟩) (fun r s' => r = .ok (.ret (.bool true)) ∧ OldK s₁.heap s'.heap ∧ s'.os = s₁.os ∧ AllBare s'.gens) s₁ := by
  have rv := vals_ints hi
  have lenV := hi.length
  generalize hH : scriptH K a vs ns = H
  have known : ∀ {b : Addr} {o : HO}, H b = some o → b = a ∧ K.lookup a = none ∧ o = .frz { cls := .type "list", data := .seq vs.toArray } (.lst (ns.map V.int)) := fun {b o} e => by
    rw [← hH] at e
    exact scriptH_some e
  have ok : HOk P w H s₁.heap := fun b o e => by
    obtain ⟨rfl, _, rfl⟩ := known e
    exact ⟨ha, by rw [List.length_map]; exact hl, vs, _, rv, ha⟩
  have sq : SqL K H a (ns.map V.int) := by
    cases c : K.lookup a with
    | none => exact Or.inl (Or.inr ⟨_, by rw [← hH]; unfold scriptH; rw [if_pos ⟨rfl, c⟩]⟩)
    | some o =>
      have z := KX a o c
      rw [ha] at z
      cases z
      exact Or.inr ⟨_, vs.toArray, _, c, rfl, rfl, rfl, by rw [List.size_toArray, lenV]; exact hl, by simpa using rv⟩
  have free : ∀ {b : Addr} {o : Obj}, K.lookup b = some o → H b = none := fun {b o} e => by
    cases q : H b with
    | none => rfl
    | some u =>
      obtain ⟨rfl, z, _⟩ := known q
      rw [e] at z
      cases z
  have names : ∀ {b : Addr} {m : Str → Option Value}, s₁.heap.Ns b m → (hidT s₁.heap H).Ns b m := fun {b m} ⟨o, es, ep, e, d, z⟩ => ⟨o, es, ep, hidT_get e (by
    cases q : H b with
    | none => rfl
    | some u =>
      obtain ⟨rfl, _, _⟩ := known q
      rw [ha] at e
      cases e
      exact nomatch (show Data.seq vs.toArray _ = Data.dict es ep from d)), d, z⟩
  have kin : K.In (hidT s₁.heap H) := fun b o e => hidT_get (KX b o e) (free e)
  obtain ⟨mc, n1, n2⟩ := hlim
  have e0 : Env0 P w K mg (hidT s₁.heap H) callerA [] s₁ H :=
    { frames := rfl, mod := ⟨kin, names hns, ⟨mb, names hb, hbb⟩, ⟨mc, names n1, n2⟩⟩, bs := fun b o e => of_hidT e, bsz := Nat.le_of_eq (hidT_size _ _), funs := trivial, frf := fun b z => absurd (show b ∈ ([] : List Addr) from z) (by simp), hok := ok, bare := .of_eq hg }
  refine codeAny_mono ((F _ kin (names hns)).run callerA [] s₁ H ⟨[.ref a], []⟩ [.ref a] [.ref a] _ _ hr rfl e0 (hbind s₁ (.ref a)) (.cons rfl .nil) (hsp H sq)) fun r s' told => ?_
  match r, told with
  | .error e, told =>
    obtain ⟨_, _, _, _, _, _, _, _, _, _, _, _, z⟩ := told
    exact z.elim
  | .ok (.ret u), ⟨v, H', os, bare, un, ok', rel, z⟩ =>
    have z' : v = .bl true := z
    subst z'
    obtain rfl : u = Value.bool true := rel
    refine ⟨rfl, OldK.of_keep fun b o e => ?_, os, bare⟩
    cases q : H b with
    | none => exact un.keep b o e q (fun z => absurd (show b ∈ ([] : List Addr) from z) (by simp)) (by simp)
    | some u =>
      obtain ⟨rfl, _, rfl⟩ := known q
      obtain ⟨e1, _⟩ := ok b _ q
      obtain ⟨e2, _⟩ := ok' b _ (un.frzs b _ _ q)
      rw [e] at e1
      cases e1
      exact e2
theorem walk_g {l : PySem.W.OpenLaw} {n k : Nat} {q : Program} {loose : List Str} {XP : (Str → Option Value) → Heap → Prop} {YP : World → Heap → Prop} {d : DefRec} {K : Params → PySem.W.Frag} {x : Str}
    (hn : l.most = some n) (hn2 : n ≤ sizeLine) (hdf : d.params.defaults = []) (hr : Room k callerA) (hY : ∀ (w : World) (h : Heap), YP w h → (K w.params).In h)
    (F : ∀ (w : World) (mg : Str → Option Value) (fa : Addr) (h : Heap), (K w.params).In h → h.Ns mainGlobals mg → mg d.name = some (.ref fa) →
      ∃ fd : FuncData, (∀ (s : Shared) (u : Value), BindsTo s fd ⟨[u], []⟩ [(x, u)]) ∧ ∃ sp : Sp, (∀ base : Heap, (K w.params).In base → base.Ns mainGlobals mg → FnG l.prog w (K w.params) mg base k fa fd [x] sp) ∧
        ∀ (H : Hp) (a : Addr) (ns : List Int), ns.length ≤ n → SqL (K w.params) H a (ns.map V.int) → sp [.ref a] H (fun v _ => v = .bl true) fun _ _ _ => False) :
    PySem.W.WalkO q loose XP YP l.row.toRowW d [] (fun f vs => PySem.call f vs) := by
  refine Att.attach_call hn hdf fun w s₀ s₁ mg mb fa o pm cd doc a vs ns G Y ho hd hcd hmg hobj hints hlen hg => ?_
  obtain ⟨fd, bind, sp, prom, met⟩ := F w mg fa _ (hY w _ Y) G.T.g hmg
  exact law_g (hY w _ Y) G.T.g G.T.b G.T.builtins G.T.nolimit hg hobj hints (Nat.le_trans hlen hn2) hr prom bind fun H hS => met H a ns hlen hS
/-- the law's worth is True at the script: that is its promise -/
theorem law_sp {K : PySem.W.Frag} {fn : FnT} {H : Hp} {a : Addr} {ns : List Int} {ps' : List T} (hS : SqL K H a (ns.map V.int)) (e : fn [.fz (.scr ns)] = some (.ret (.fz (.bl true)), ps')) (hl : ps'.length = 1) : spD K 1 fn [.ref a] H (fun v _ => v = .bl true) fun _ _ _ => False := by
  refine ⟨rfl, H, fun _ => False, [.fz (.scr ns)], _, ps', e, ⟨.cons (g := fun _ => False) (h := fun _ => False) (.fz (.scr hS)) .nil (fun b hb => hb) (fun b hb => hb) (fun b hb => hb.elim), fun b hb => hb.elim, fun _ _ z => Or.inl z, trivial⟩, fun v G' H' En => ?_⟩
  obtain ⟨f', rt, _⟩ := En.rt
  obtain ⟨_, _, _, k2, _⟩ := rt.split (by simpa using hl)
  cases k2 with | cons a1 _ _ _ _ => cases a1 with | fz q => cases q; rfl
/-! ### a def by its name -/
structure FnE (P : Program) (w : World) (K : PySem.W.Frag) (mg : Str → Option Value) (base : Heap) (k : Nat) (x : Str) (ps : List Str) (fn : FnT) : Prop where
  ex : ∃ f fd, FnG P w K mg base k f fd ps (spD K ps.length fn) ∧ mg x = some (.ref f) ∧ PySem.W.keepIn K (.ref f) = true ∧ Binds K fd ps []
  len : ∀ qs z, fn qs = some z → qs.length = ps.length
section
variable {X : Cx} {k : Nat} {x : Str} {ps : List Str} {fn : FnT} {E : L2.St → XK} {p pos : Pos} {e : Expr} {es : List Expr} {t : TA}
theorem pe_fnE (Ef : FnE X.prog X.w X.K X.mg X.base k x ps fn) (hr : Room k X.A) (gu : X.A.guards = some []) (hg : Gl X x) (hx : ∀ σ, PassesAt (L2.CX X.prog X.w) X σ (E σ))
    (ha : PA X (e :: es) t) (hdb : (x == ("__debug__" : Str)) = false := by decide) (he : starEach (e :: es) X.env = (false, eval e X.env) :: starEach es X.env := by rfl) (hpl : (backTo pos (starEach es X.env)).any (·.1) = false := by rfl) :
    PE X (.Call (.Name x p) (e :: es) [] pos) (tCallS (spD X.K ps.length fn) E t) := by
  obtain ⟨f, fd, G, hm, hk, hb⟩ := Ef.ex
  exact pe_fn G hr gu hg hm hk hb hx ha hdb he hpl
end
theorem kit_ref {K : PySem.W.Frag} {c d : Addr} {b : Bool} (h1 : PySem.W.hasDictIn K d = true) (h2 : PySem.W.typeIn K (.ref d) = some (.type "type")) (h3 : PySem.W.subIn K (.ref c) (.ref d) = some b) (h4 : c = d → b = true) : PySem.W.kitOne K (.ref c) (.ref d) = some b := by
  unfold PySem.W.kitOne
  split
  · rename_i z
    rw [h4 (Value.ref.inj (beq_iff_eq.mp z))]
  · obtain ⟨cd, hc, _⟩ := PySem.W.any_some h1
    unfold PySem.W.kitCls
    dsimp only
    rw [if_pos (by rw [hc, h2]; rfl)]
    exact h3
theorem kit_typ {K : PySem.W.Frag} {c : Addr} {n : String} {b : Bool} (h : PySem.W.kitMeta n = true) (h3 : PySem.W.subIn K (.ref c) (.type n) = some b) : PySem.W.kitOne K (.ref c) (.type n) = some b := by
  unfold PySem.W.kitOne
  rw [if_neg (by intro z; cases beq_iff_eq.mp z)]
  unfold PySem.W.kitCls
  dsimp only
  rw [if_pos h]
  exact h3
theorem dt_test {K : PySem.W.Frag} {te : TE} {f : FD} (h : DF K te f) : DT K (tTest te) (dBl f) := fun F G H r s tm us b r' I hl e Q q => dt_bl h F G H r s tm us b r' I hl e Q q
end Q

set_option Elab.async false
set_option linter.all false
set_option maxRecDepth 100000
set_option maxHeartbeats 2000000
namespace Q
open PySem PySem.Spec PyProof.Rows L2
/-! ### reckoning with what a def is worth -/
theorem seq_nx {g h : SD} {r r1 : Env} (e : g r = some (.nx r1)) : dSeq g h r = h r1 := by unfold dSeq; rw [e]; rfl
theorem seq_rt {g h : SD} {r r1 : Env} {w : W} (e : g r = some (.rt w r1)) : dSeq g h r = some (.rt w r1) := by unfold dSeq; rw [e]; rfl
theorem seq_ex {g h : SD} {r r1 : Env} {c : Addr} (e : g r = some (.ex c r1)) : dSeq g h r = some (.ex c r1) := by unfold dSeq; rw [e]; rfl
theorem fn_rt {n N : Nat} {fx : List Bool} {b : SD} {ps : List T} {d : D} {r : Env} (hl : ps.length = n) (e : b (ps ++ List.replicate (N - n) .un) = some (.rt (.sh d) r)) (h : n ≤ r.length) : fnD n N fx b ps = some (.ret (.fz d), outP fx ps r) := by
  unfold fnD
  rw [if_pos hl, e]
  simp [retW, h]
theorem fn_nw {n N : Nat} {fx : List Bool} {b : SD} {ps : List T} {t : T} {r : Env} (hl : ps.length = n) (e : b (ps ++ List.replicate (N - n) .un) = some (.rt (.nw t) r)) (h : n ≤ r.length) : fnD n N fx b ps = some (.ret t, outP fx ps r) := by
  unfold fnD
  rw [if_pos hl, e]
  simp [retW, h]
theorem fn_nx {n N : Nat} {fx : List Bool} {b : SD} {ps : List T} {r : Env} (hl : ps.length = n) (e : b (ps ++ List.replicate (N - n) .un) = some (.nx r)) (h : n ≤ r.length) : fnD n N fx b ps = some (.ret (.fz .non), outP fx ps r) := by
  unfold fnD
  rw [if_pos hl, e]
  simp [h]
theorem fn_ex {n N : Nat} {fx : List Bool} {b : SD} {ps : List T} {c : Addr} {r : Env} (hl : ps.length = n) (e : b (ps ++ List.replicate (N - n) .un) = some (.ex c r)) (h : n ≤ r.length) : fnD n N fx b ps = some (.exc c, outP fx ps r) := by
  unfold fnD
  rw [if_pos hl, e]
  simp [h]
/-- a comprehension that tells a thing of each item -/
theorem comp_map {h : GD} {e : MD} {own : List Nat} {P : Env → Prop} {g : D → T} : ∀ (l : List D) (r : Env) (acc : List T), (∀ d ∈ l, ∀ r, P r → ∃ r1 r2, h (wipeT r own) (.fz d) = some r1 ∧ e r1 = some (g d, r2) ∧ P r2) → P r → acc.length + l.length ≤ 1000000 →
    ∃ r', compD h dYes e own l r acc = some (acc ++ l.map g, r') ∧ P r'
  | [], r, acc, _, p, _ => ⟨r, by simp [compD], p⟩
  | d :: l, r, acc, hs, p, hb => by
    obtain ⟨r1, r2, e1, e2, p2⟩ := hs d List.mem_cons_self r p
    obtain ⟨r', e3, p3⟩ := comp_map l r2 (acc ++ [g d]) (fun d' hd => hs d' (List.mem_cons_of_mem _ hd)) p2 (by simp at hb ⊢; omega)
    refine ⟨r', ?_, p3⟩
    have hc : acc.length < 1000000 := by simp at hb; omega
    simp only [compD, e1, e2, dYes, Option.bind_some, if_true, if_pos hc]
    rw [e3]
    simp
/-- two clauses, likewise -/
theorem comp2_map {h h1 : GD} {e : MD} {f1 : ID} {own own1 : List Nat} {P : Env → Prop} {g : D → List T} : ∀ (l : List D) (r : Env) (acc : List T), (∀ d ∈ l, ∀ r acc, P r → acc.length + (g d).length ≤ 1000000 → ∃ r1 l1 r2 r3, h (wipeT r own) (.fz d) = some r1 ∧ f1 r1 = some (l1, r2) ∧ compD h1 dYes e own1 l1 r2 acc = some (acc ++ g d, r3) ∧ P r3) → P r → acc.length + (l.flatMap g).length ≤ 1000000 →
    ∃ r', comp2D h dYes f1 h1 dYes e own own1 l r acc = some (acc ++ l.flatMap g, r') ∧ P r'
  | [], r, acc, _, p, _ => ⟨r, by simp [comp2D], p⟩
  | d :: l, r, acc, hs, p, hb => by
    rw [List.flatMap_cons, List.length_append] at hb
    obtain ⟨r1, l1, r2, r3, e1, e2, e3, p3⟩ := hs d List.mem_cons_self r acc p (by omega)
    obtain ⟨r', e4, p4⟩ := comp2_map l r3 (acc ++ g d) (fun d' hd => hs d' (List.mem_cons_of_mem _ hd)) p3 (by rw [List.length_append]; omega)
    refine ⟨r', ?_, p4⟩
    simp only [comp2D, e1, e2, e3, dYes, Option.bind_some, if_true]
    rw [e4]
    simp
theorem dataL_fz : ∀ l : List D, dataL (l.map .fz) = some l
  | [] => rfl
  | d :: l => by simp [dataL, T.data, dataL_fz l]
/-- a loop that goes on -/
theorem loop_fold {h : GD} {body : SD} {α : Type} (st : α → Env → Prop) (f : α → D → α) (a0 : α) (l : List D) (hs : ∀ pre d post, l = pre ++ d :: post → ∀ r, st (pre.foldl f a0) r → ∃ r1 r2, h r (.fz d) = some r1 ∧ body r1 = some (.nx r2) ∧ st (f (pre.foldl f a0) d) r2) :
    ∀ (post pre : List D) (r : Env), l = pre ++ post → st (pre.foldl f a0) r → ∃ r', loopD h body post r = some (.nx r') ∧ st (l.foldl f a0) r'
  | [], pre, r, e, p => ⟨r, rfl, by rw [e, List.append_nil]; exact p⟩
  | d :: post, pre, r, e, p => by
    obtain ⟨r1, r2, e1, e2, p2⟩ := hs pre d post e r p
    obtain ⟨r', e3, p3⟩ := loop_fold st f a0 l hs post (pre ++ [d]) r2 (by rw [e]; simp) (by rw [List.foldl_append]; exact p2)
    refine ⟨r', ?_, p3⟩
    simp only [loopD, e1, e2, Option.bind_some]
    exact e3
theorem loop_all {h : GD} {body : SD} {α : Type} {st : α → Env → Prop} {f : α → D → α} {a0 : α} {l : List D} {r : Env} (hs : ∀ pre d post, l = pre ++ d :: post → ∀ r, st (pre.foldl f a0) r → ∃ r1 r2, h r (.fz d) = some r1 ∧ body r1 = some (.nx r2) ∧ st (f (pre.foldl f a0) d) r2) (p : st a0 r) :
    ∃ r', loopD h body l r = some (.nx r') ∧ st (l.foldl f a0) r' := loop_fold st f a0 l hs l [] r rfl p
theorem for_nx {f : ID} {h : GD} {body : SD} {r r1 : Env} {l : List D} {o : O} (e : f r = some (l, r1)) (e2 : loopD h body l r1 = some o) : dFor f h body r = some o := by unfold dFor; rw [e]; exact e2
theorem op_eval {g : List D → Option Rs} {fa fb : FD} {r r1 r2 : Env} {a b : D} {z : Rs} (h1 : fa r = some (a, r1)) (h2 : fb r1 = some (b, r2)) (h3 : g [a, b] = some z) : dOp g fa fb r = some (z.w, r2) := by
  simp [dOp, dWith, fdCons, fdNil, h1, h2, h3]
theorem un_eval {g : List D → Option Rs} {fa : FD} {r r1 : Env} {a : D} {z : Rs} (h1 : fa r = some (a, r1)) (h3 : g [a] = some z) : dWith (fdCons fa fdNil) g r = some (z.w, r1) := by
  simp [dWith, fdCons, fdNil, h1, h3]
theorem asg_nw {f : ED} {r r1 : Env} {t : T} {i : Nat} (h : f r = some (.nw t, r1)) : dAsg (xLift f) (gdName i) r = some (.nx (r1.set i t)) := by
  simp [dAsg, xLift, h, mv, gdName]
theorem asg_sh {f : ED} {r r1 : Env} {d : D} {i : Nat} (h : f r = some (.sh d, r1)) : dAsg (xLift f) (gdName i) r = some (.nx (r1.set i (.fz d))) := by
  simp [dAsg, xLift, h, mv, share, gdName]
theorem sh_sh {f : ED} {r r1 : Env} {d : D} (h : f r = some (.sh d, r1)) : dSh f r = some (d, r1) := by
  simp [dSh, h, share]
theorem sh_nw {f : ED} {r r1 : Env} {t : T} {d : D} (h : f r = some (.nw t, r1)) (hd : t.data = some d) : dSh f r = some (d, r1) := by
  simp [dSh, h, share, hd]
theorem bl_of {f : FD} {r r1 : Env} {b : Bool} (h : f r = some (.bl b, r1)) : dBl f r = some (b, r1) := by
  simp [dBl, h, D.bool]
theorem call_sh {fn : FnT} {f : AD} {r r1 r2 : Env} {ws : List W} {ps ps' : List T} {d : D} (h1 : f r = some (ws, r1)) (h2 : pars r1 ws = some (ps, r2)) (h3 : fn ps = some (.ret (.fz d), ps')) (h4 : ps'.length = ws.length) (h5 : back r2 ws ps' = r2 := by rfl) : dCall fn f r = some (.sh d, r2) := by
  simp [dCall, h1, h2, h3, h4, h5, resW]
theorem mulW_small {i j : Int} (a b : Nat) (hi : i.natAbs < 2 ^ a) (hj : j.natAbs < 2 ^ b) (h : a + b ≤ 1000000) (h0 : 0 < a) (h1 : 0 < b) : CMulW i j := wide_mul hi hj h0 h1 h
end Q

set_option Elab.async false
set_option linter.all false
set_option maxRecDepth 100000
set_option maxHeartbeats 2000000
namespace Q
open PySem PySem.Spec PyProof.Rows L2
/-! ### in, not in -/
def D.eqF : D → D → Bool
  | .non, .non => true
  | .bl a, .bl b => a == b
  | .bl a, .int b => (if a then 1 else 0) == b
  | .int a, .bl b => a == (if b then 1 else 0)
  | .int a, .int b => a == b
  | .str a, .str b => a == b
  | _, _ => false
section
variable {K : PySem.W.Frag}
theorem scal_flat {G : Hp} {d : D} {v : V} (h : Rp K G d v) (e : d.scal = true) : flatV v = true := by
  cases h with
  | non => rfl
  | bl b => rfl
  | int i => rfl
  | str x => rfl
  | _ => cases e
theorem scal_eqV {G : Hp} {d d' : D} {v v' : V} (h : Rp K G d v) (h' : Rp K G d' v') (e : d.scal = true) (e' : d'.scal = true) : eqV v v' = D.eqF d d' := by
  cases h with
  | non => cases h' <;> first | rfl | cases e'
  | bl b => cases h' <;> first | rfl | cases e'
  | int i => cases h' <;> first | rfl | cases e'
  | str x => cases h' <;> first | rfl | cases e'
  | _ => cases e
theorem scals_flat {G : Hp} : ∀ {l : List D} {vs : List V}, RpL K G l vs → l.all D.scal = true → vs.all flatV = true
  | _, _, .nil, _ => rfl
  | _, _, .cons h q, e => by
    rw [List.all_cons, Bool.and_eq_true] at e ⊢
    exact ⟨scal_flat h e.1, scals_flat q e.2⟩
theorem scals_in {G : Hp} {x : D} {v : V} (hx : Rp K G x v) (ex : x.scal = true) : ∀ {l : List D} {vs : List V}, RpL K G l vs → l.all D.scal = true → inV v vs = l.any fun y => D.eqF y x
  | _, _, .nil, _ => rfl
  | _, _, .cons h q, e => by
    rw [List.all_cons, Bool.and_eq_true] at e
    have := scals_in hx ex q e.2
    unfold inV at this ⊢
    rw [List.any_cons, List.any_cons, scal_eqV h hx e.1 ex, this]
def gIn (neg : Bool) : List D → Option Rs
  | [x, y] => y.items.bind fun l => if x.scal = true ∧ l.all D.scal = true then some (.val (.bl (if neg then !(l.any fun y => D.eqF y x) else l.any fun y => D.eqF y x))) else none
  | _ => none
theorem dc_in {neg : Bool} : DC K (rl2 (rIn K neg)) (gIn neg) := fun G H xs vs z sb pl q e Q k => by
  unfold gIn at e
  split at e
  · obtain ⟨l, e1, e⟩ := Option.bind_eq_some_iff.mp e
    split at e
    · rename_i c
      cases e
      cases q with | cons p q => cases q with | cons p2 q =>
        cases q
        obtain ⟨a, us, rfl, h, r⟩ := items_rp sb p2 e1
        refine ⟨a, us, rfl, h, scal_flat p c.1, scals_flat r c.2, ?_⟩
        rw [scals_in p c.1 r c.2]
        exact k _ (.bl _)
    · cases e
  · cases e
/-! ### x in range(n) -/
def rRng1 : List V → Hp → VK → Prop := fun vs H Q => ∃ j, vs = [V.int j] ∧ ∀ p, H p = none → Q (.ref p) (upd H p (.rng 0 j))
theorem cr_range1 {X : Cx} : CallR X (.type "range") rRng1 := by
  intro pins s σ H vs us Q I r h
  obtain ⟨j, rfl, q⟩ := h
  obtain ⟨u1, rfl, ri⟩ := vals1 r
  obtain ⟨t, rfl⟩ := ri
  refine call_range_1 ⟨.ref s.heap.objs.size, upd H s.heap.objs.size (.rng 0 j), I.laid (t' := s.toks + 1 + 1) (fun b o e => Heap.get?_push_of_some _ e) (Nat.le_refl _) ?_, rfl, q _ (I.hok.fresh (Nat.le_refl _))⟩
  exact ⟨_, t, _, Heap.get?_push_size _ rfl⟩
def rInR (neg : Bool) : R2 := fun x y H Q => ∃ i a lo hi, x = V.int i ∧ y = V.ref a ∧ H a = some (.rng lo hi) ∧ Q (.bl (if neg then !decide (lo ≤ i ∧ i < hi) else decide (lo ≤ i ∧ i < hi))) H
theorem op_inR {X : Cx} : OpR X (compareOp .In) (rInR false) := op_in_rng
theorem op_notInR {X : Cx} : OpR X (compareOp .NotIn) (rInR true) := by
  intro pins s σ H x y v u Q I rx ry h
  obtain ⟨i, a, lo, hi, rfl, rfl, ha, q⟩ := h
  obtain ⟨k, rfl⟩ := rx
  obtain rfl : u = Value.ref a := ry
  obtain ⟨t1, t2, t3, ho⟩ := I.hok a _ ha
  show wpAny _ _ (do return Value.bool (!(← contains (Value.ref a) (Value.int i k)))) _ _ s
  refine wpAny_bind (wpAny_contains_slot (T := "range") ⟨_, ho, rfl⟩ F.slot_range_contains (call_meets F.slot_range_contains ⟨_, ho, rfl⟩ F.entry_range_contains (F.args_range_contains_2 _ _) (q_contains a lo hi i t1 t2 t3 k)
    ⟨ho, wpAny_truthy_bool (wpAny_pure ⟨.bl _, H, I, rfl, ?_⟩)⟩))
  rw [place1]
  exact q
def dInR (neg : Bool) (fx fn : FD) : ED := fun r => (fx r).bind fun p => (fn p.2).bind fun q => match p.1, q.1 with
  | .int i, .int n => some (.sh (.bl (if neg then !decide (0 ≤ i ∧ i < n) else decide (0 ≤ i ∧ i < n))), q.2)
  | _, _ => none
theorem de_inR {neg : Bool} {tx tn : TE} {fx fn : FD} (hx : DF K tx fx) (hn : DF K tn fn) : DE K (tOp (rInR neg) tx (tCB rRng1 (tCons tn tNil))) (dInR neg fx fn) := fun F G H r s tm us w r' I hl e Q q => by
  obtain ⟨⟨d, r1⟩, e1, e⟩ := Option.bind_eq_some_iff.mp e
  obtain ⟨⟨n, r2⟩, e2, e⟩ := Option.bind_eq_some_iff.mp e
  dsimp only at e
  split at e
  · cases e
    refine hx F G H r s tm us _ r1 I hl e1 _ fun v G1 H1 x1 I1 l1 q1 => ?_
    cases q1
    refine hn F G1 H1 r1 s tm us _ _ I1 l1 e2 _ fun v G2 H2 x2 I2 l2 q2 => ?_
    cases q2
    refine ⟨_, rfl, fun p hp => ⟨_, p, 0, _, rfl, rfl, upd_same, ?_⟩⟩
    exact q _ _ _ ((x1.trans x2).trans (Ex.new (I2.Gnone hp))) (by simpa only [W.tm, W.vl, List.append_nil] using I2.laid hp (o := .rng 0 _) (fun _ _ z => HO.noConfusion z)) l2 (.bl _)
  · cases e
/-! ### sum, int -/
def intsD : List D → Option (List Int)
  | [] => some []
  | .int i :: l => (intsD l).map (i :: ·)
  | _ => none
theorem intsD_rp {G : Hp} : ∀ {l : List D} {vs : List V} {ns : List Int}, RpL K G l vs → intsD l = some ns → vs = ns.map V.int
  | [], vs, ns, h, e => by cases h; cases e; rfl
  | d :: l, vs, ns, h, e => by
    cases d with
    | int i =>
      obtain ⟨ns', e1, e2⟩ := Option.map_eq_some_iff.mp (show (intsD l).map (i :: ·) = some ns from e)
      subst e2
      cases h with | cons h1 h2 => cases h1; rw [intsD_rp h2 e1]; rfl
    | _ => cases e
def gSum : List D → Option Rs
  | [.lst l] => (intsD l).bind fun ns => some (.val (.int ns.sum))
  | _ => none
theorem dc_sum : DC K (rSum K) gSum := fun G H xs vs z sb pl q e Q k => by
  unfold gSum at e
  split at e
  · obtain ⟨ns, e1, e⟩ := Option.bind_eq_some_iff.mp e
    cases e
    cases q with | cons p q =>
      cases q
      cases p with | lst a b => exact ⟨_, ns, rfl, by rw [← intsD_rp b e1]; exact Or.inl (Or.inl (sub_ex sb a)), k _ (.int _)⟩
  · cases e
def gInt : List D → Option Rs
  | [.int i] => some (.val (.int i))
  | [.bl b] => some (.val (.int (if b then 1 else 0)))
  | _ => none
theorem dc_int : DC K (fun xs H Q => (∃ i, xs = [V.int i] ∧ Q (.int i) H) ∨ ∃ k, xs = [V.bl k] ∧ Q (.int (if k then 1 else 0)) H) gInt := fun G H xs vs z sb pl q e Q k => by
  unfold gInt at e
  split at e
  · cases e
    cases q with | cons p q => cases q; cases p; exact Or.inl ⟨_, rfl, k _ (.int _)⟩
  · cases e
    cases q with | cons p q => cases q; cases p; exact Or.inr ⟨_, rfl, k _ (.int _)⟩
  · cases e
end
/-! ### a dict of the top, its keys texts: name.get(e) -/
def KTab (K : PySem.W.Frag) (w : World) (a : Addr) (tbl : Str → V) : Prop := ∃ es n, K.lookup a = some ⟨.type "dict", none, .dict es n, #[]⟩ ∧ PySem.W.KeysLit w.params es.toList ∧ (a == sysModules) = false ∧ ∀ x, RelV (tbl x) ((findBy Value.isStrOf es x).getD .none)
def rKGet (tbl : Str → V) : V → Hp → VK → Prop := fun y H Q => ∃ z, y = .str z ∧ Q (tbl z) H
section
variable {X : Cx} {e : Expr} {x : Str} {p apos cpos : Pos} {ty : TE} {a : Addr} {tbl : Str → V}
theorem pe_kget (hg : Gl X x) (hm : X.mg x = some (.ref a)) (kt : KTab X.K X.w a tbl) (he : PE X e ty) (m : M1 X (.Name x p) "get" apos e cpos) (hd : (x == ("__debug__" : Str)) = false := by decide) : PE X (.Call (.Attribute (.Name x p) "get" apos) [e] [] cpos) (tUn (rKGet tbl) ty) := by
  refine ⟨fun pins s σ H Q I h => ?_⟩
  obtain ⟨es, n, hl, hk, low, rel⟩ := kt
  refine wpAny_Call_method m.base m.few m.line PySem.F.plainAttrs_dict PySem.F.slot_dict_get PySem.F.type_dict_get (thn ((pe_glob (v := .ref a) (pos := p) hg hm rfl hd).run pins s σ H (fun v H1 => v = .ref a ∧ H1 = H) I ⟨rfl, rfl⟩) fun u s1 ⟨v, H1, I1, rv, ev⟩ => ?_)
  obtain ⟨rfl, rfl⟩ := ev
  obtain rfl : u = Value.ref a := rv
  have ha := I1.kIn _ _ hl
  refine ⟨⟨_, ha, rfl⟩, fun b q => by cases q; exact ⟨_, ha, rfl⟩, ?_⟩
  rw [m.trees]
  refine Calls.callWith_builtin rfl (Calls.evalArgs_plain (Calls.spliced_cons (thn (he.run pins s1 σ _ _ I1 h) fun iv s2 ⟨y, H2, I2, ry, z, ez, q2⟩ => Calls.spliced_nil ?_)))
  subst ez
  obtain ⟨t, rfl⟩ := (show ∃ t, iv = Value.str z t from ry)
  have hm' := PySem.W.mapOf_K (prog := X.prog) (w := X.w) I2.kIn hl hk
  exact call_meetsIn PySem.F.slot_dict_get hm'.typeIs PySem.F.entry_dict_get (PySem.F.args_dict_get_2 _ _) (meets_dict_get (strKind X.prog X.w) a (strKind_is X.prog X.w z t) low) ⟨_, hm', ⟨_, H2, I2.tok _, rel z, q2⟩⟩
end
section
variable {K : PySem.W.Frag}
def gKGet (tb : Str → D) : List D → Option Rs
  | [.str x] => some (.val (tb x))
  | _ => none
theorem dc_kget {tb : Str → D} {tbl : Str → V} (h : ∀ G x, Rp K G (tb x) (tbl x)) : DC K (rl1 (rKGet tbl)) (gKGet tb) := fun G H xs vs z sb pl q e Q k => by
  unfold gKGet at e
  split at e
  · cases e
    cases q with | cons p q => cases q; cases p; exact ⟨_, rfl, k _ (h G _)⟩
  · cases e
/-- texts and what they stand for -/
def tabD : List (Str × Int) → Str → D
  | [], _ => .non
  | (k, i) :: l, x => if k == x then .int i else tabD l x
def tabV : List (Str × Int) → Str → V
  | [], _ => .non
  | (k, i) :: l, x => if k == x then .int i else tabV l x
theorem tab_rp (G : Hp) : ∀ (l : List (Str × Int)) (x : Str), Rp K G (tabD l x) (tabV l x)
  | [], _ => .non
  | (k, i) :: l, x => by
    unfold tabD tabV
    split
    · exact .int i
    · exact tab_rp G l x
/-- an entry of a dict is this one -/
def EntIs (d : DictEntry) (p : Str × Int) : Prop := (∃ t, d.key = .str p.1 t) ∧ ∃ t, d.val = .int p.2 t
def EntsAre : List DictEntry → List (Str × Int) → Prop
  | [], [] => True
  | d :: ds, p :: ps => EntIs d p ∧ EntsAre ds ps
  | _, _ => False
theorem tab_find : ∀ {ds : List DictEntry} {ps : List (Str × Int)} (x : Str), EntsAre ds ps → RelV (tabV ps x) (((ds.find? fun e => Value.isStrOf x e.key).map (·.val)).getD .none)
  | [], [], x, _ => rfl
  | [], _ :: _, x, h => h.elim
  | _ :: _, [], x, h => h.elim
  | d :: ds, (k, i) :: ps, x, ⟨⟨⟨t, h1⟩, u, h2⟩, h⟩ => by
    rw [List.find?_cons]
    have : Value.isStrOf x d.key = (k == x) := by rw [h1]; rfl
    rw [this]
    unfold tabV
    cases c : k == x with
    | true => simp only [if_true, Option.map_some, Option.getD_some]; rw [h2]; exact ⟨u, rfl⟩
    | false => exact tab_find x h
theorem ktab_of {w : World} {a : Addr} {es : Array DictEntry} {n : Nat} {ps : List (Str × Int)} (hl : K.lookup a = some ⟨.type "dict", none, .dict es n, #[]⟩) (hk : PySem.W.KeysLit w.params es.toList) (low : (a == sysModules) = false) (h : EntsAre es.toList ps) : KTab K w a (tabV ps) := by
  refine ⟨es, n, hl, hk, low, fun x => ?_⟩
  obtain ⟨l⟩ := es
  unfold findBy
  rw [List.find?_toArray]
  exact tab_find x h
/-- a tuple of the top, of texts -/
def strsAre : List Value → List Str → Prop
  | [], [] => True
  | v :: vs, x :: xs => (∃ t, v = .str x t) ∧ strsAre vs xs
  | _, _ => False
theorem vals_strs : ∀ {vs : List Value} {xs : List Str}, strsAre vs xs → Vals (xs.map V.str) vs
  | [], [], _ => .nil
  | [], _ :: _, h => h.elim
  | _ :: _, [], h => h.elim
  | v :: vs, x :: xs, ⟨h1, h2⟩ => .cons h1 (vals_strs h2)
theorem rp_strs (G : Hp) : ∀ xs : List Str, RpL K G (xs.map D.str) (xs.map V.str)
  | [] => .nil
  | x :: xs => .cons (.str x) (rp_strs G xs)
theorem ktup_of {a : Addr} {dd : Option Addr} {sl : Array (Option Value)} {its : Array Value} {n : Nat} {xs : List Str} (hl : K.lookup a = some ⟨.type "tuple", dd, .seq its n, sl⟩) (hz : its.size ≤ sizeLine) (h : strsAre its.toList xs) (G : Hp) : Rp K G (.tup (xs.map D.str)) (.ref a) :=
  .tup (Or.inr ⟨_, its, n, hl, rfl, rfl, hz, vals_strs h⟩) (rp_strs G xs)
end
/-! ### f() -/
section
variable {X : Cx} {k : Nat} {x : Str} {fn : FnT} {E : L2.St → XK} {p pos : Pos}
theorem pe_fnE0 (Ef : FnE X.prog X.w X.K X.mg X.base k x [] fn) (hr : Room k X.A) (gu : X.A.guards = some []) (hg : Gl X x) (hx : ∀ σ, PassesAt (L2.CX X.prog X.w) X σ (E σ)) (hdb : (x == ("__debug__" : Str)) = false := by decide) :
    PE X (.Call (.Name x p) [] [] pos) (tCallS (spD X.K 0 fn) E tNil) := by
  obtain ⟨f, fd, G, hm, hk, hb⟩ := Ef.ex
  refine ⟨fun pins s σ H Q I h => ?_⟩
  refine wpAny_Call_Name_kw (ld_glob I hg hm ?_ hdb)
  exact PySem.W.callWith_K0 I.kIn hk (run_fn (us := []) (vs := []) G hr gu hb (hx σ) I .nil h)
end
/-! ### a def that calls itself -/
theorem fn_none {P : Program} {w : World} {K : PySem.W.Frag} {mg : Str → Option Value} {base : Heap} {k : Nat} {f : Addr} {fd : FuncData} {ps : List Str} : FnG P w K mg base k f fd ps (spD K ps.length fun _ => none) :=
  ⟨fun vs H Q E h => h.1, fun A outer s H args us vs Q E _ _ _ _ _ h => by
    obtain ⟨_, _, _, _, _, _, e, _⟩ := h
    cases e⟩
/-- what stands at the top of a def's name -/
structure Named (K : PySem.W.Frag) (mg : Str → Option Value) (x : Str) (f : Addr) (fd : FuncData) (ps : List Str) : Prop where
  at_ : mg x = some (.ref f)
  keep : PySem.W.keepIn K (.ref f) = true
  binds : Binds K fd ps []
end Q

set_option Elab.async false
set_option linter.all false
set_option maxRecDepth 100000
set_option maxHeartbeats 2000000
namespace Q
open PySem PySem.Spec PyProof.Rows L2
/-! ### how much lies in a thing -/
mutual
def D.size : D → Nat
  | .tup l => sizeL l + 1
  | .lst l => sizeL l + 1
  | _ => 1
def sizeL : List D → Nat
  | [] => 0
  | d :: l => d.size + sizeL l
end
def sizeAt (i : Nat) : Env → Nat := fun r => (match (r[i]?).bind T.data with
  | some d => d.size
  | none => 0) + 1
end Q

set_option Elab.async false
set_option linter.all false
set_option maxRecDepth 100000
set_option maxHeartbeats 4000000
namespace K1
open PySem PySem.Spec PyProof.Rows L2 Q
def topS (i : Nat) : Stmt := PySem.Challenge.pw_roadsay_k01_what_is_a_shape.main.body.getD i (.Pass ⟨0, 0, 0, 0⟩)
def FU : Nat := 190
def tok_MOST_FIELDS (mg : Str → Option Value) : Tok := match mg "MOST_FIELDS" with
  | some (.int _ t) => t
  | _ => 0
def tok_MOST_LETTERS (mg : Str → Option Value) : Tok := match mg "MOST_LETTERS" with
  | some (.int _ t) => t
  | _ => 0
def tok_MOST_VALUES (mg : Str → Option Value) : Tok := match mg "MOST_VALUES" with
  | some (.int _ t) => t
  | _ => 0
structure Zs where
  SayError : Addr
  NoShape : Addr
  NoSaying : Addr
  NoLetter : Addr
  NoCount : Addr
  NoTest : Addr
  NoTable : Addr
  NoText : Addr
  NoLine : Addr
  NoName : Addr
  NoUndo : Addr
  TooMany : Addr
structure Txt (K : PySem.W.Frag) (mg : Str → Option Value) (Z : Zs) (w : World) : Prop where
  b_ValueError : mg "ValueError" = none
  b_all : mg "all" = none
  b_bool : mg "bool" = none
  b_int : mg "int" = none
  b_isinstance : mg "isinstance" = none
  b_len : mg "len" = none
  b_list : mg "list" = none
  b_max : mg "max" = none
  b_range : mg "range" = none
  b_repr : mg "repr" = none
  b_tuple : mg "tuple" = none
  b_zip : mg "zip" = none
  k_MOST_FIELDS : mg "MOST_FIELDS" = some (.int 3 (tok_MOST_FIELDS mg))
  k_MOST_LETTERS : mg "MOST_LETTERS" = some (.int 27 (tok_MOST_LETTERS mg))
  k_MOST_VALUES : mg "MOST_VALUES" = some (.int 4 (tok_MOST_VALUES mg))
  c_SayError : mg "SayError" = some (.ref Z.SayError)
  c_NoShape : mg "NoShape" = some (.ref Z.NoShape)
  c_NoSaying : mg "NoSaying" = some (.ref Z.NoSaying)
  c_NoLetter : mg "NoLetter" = some (.ref Z.NoLetter)
  c_NoCount : mg "NoCount" = some (.ref Z.NoCount)
  c_NoTest : mg "NoTest" = some (.ref Z.NoTest)
  c_NoTable : mg "NoTable" = some (.ref Z.NoTable)
  c_NoText : mg "NoText" = some (.ref Z.NoText)
  c_NoLine : mg "NoLine" = some (.ref Z.NoLine)
  c_NoName : mg "NoName" = some (.ref Z.NoName)
  c_NoUndo : mg "NoUndo" = some (.ref Z.NoUndo)
  c_TooMany : mg "TooMany" = some (.ref Z.TooMany)
  x_NoShape : PySem.W.excIn K Z.NoShape [.type "ValueError", .type "Exception", .type "BaseException", .type "object"] "ValueError.__new__" = true
  p_NoShape : PySem.W.keepIn K (.ref Z.NoShape) = true
  u_NoShape : PySem.W.subIn K (.ref Z.NoShape) (.type "BaseException") = some true
  t_NoShape : PySem.W.typeIn K (.ref Z.NoShape) = some (.type "type")
/-! ### is_number -/
abbrev s_is_number : Stmt := topS 14
abbrev N_is_number : List Str := ["thing"]
theorem sc_is_number : FnScope N_is_number ["thing"] (defScope s_is_number) := ⟨rfl, rfl, rfl, by decide +kernel, rfl, by decide +kernel, by decide +kernel⟩
def b_is_number : SD :=
  (dRet (xLift (dBool (dAnd (dBl (dSh (dIsi .int (dSh (dVar 0))))) (dBl (dSh (dBool (dNot (dBl (dSh (dIsi .bool (dSh (dVar 0)))))))))))))
def fn_is_number : FnT := fnD 1 1 [true] (b_is_number)
/-! ### is_shape -/
abbrev s_is_shape : Stmt := topS 19
abbrev N_is_shape : List Str := ["thing", "many", "values"]
theorem sc_is_shape : FnScope N_is_shape ["thing"] (defScope s_is_shape) := ⟨rfl, rfl, rfl, by decide +kernel, rfl, by decide +kernel, by decide +kernel⟩
def b_is_shape : SD :=
  (dSeq (dIf (xbLift (dOr (dNot (dBl (dSh (dIsi .tuple (dSh (dVar 0)))))) (dNot (dBl (dSh (dChain gLe gLe (dSh (dC (.int 1))) (dSh (dWith (fdCons (dSh (dVar 0)) fdNil) gLen)) (dSh (dC (.int 3))))))))) (dRet (xLift (dC (.bl false)))) dNext)
    (dSeq (dAsg (xLift (dC (.int 1))) (gdName 1))
    (dSeq (dFor (dItemsT (dSh (dVar 0))) (gdName 2) (dSeq (dIf (xbLift (dOr (dNot (dBl (dSh (dCall fn_is_number (daCons (dVar 2) daNil))))) (dNot (dBl (dSh (dChain gLe gLe (dSh (dC (.int 1))) (dSh (dVar 2)) (dSh (dC (.int 4))))))))) (dRet (xLift (dC (.bl false)))) dNext)
    (dAug 1 gMul1 (dSh (dVar 2)))))
    (dRet (xLift (dOp gLe (dSh (dVar 1)) (dSh (dC (.int 27)))))))))
def fn_is_shape : FnT := fnD 1 3 [true] (b_is_shape)
/-! ### check_shape -/
abbrev s_check_shape : Stmt := topS 20
abbrev N_check_shape : List Str := ["shape"]
theorem sc_check_shape : FnScope N_check_shape ["shape"] (defScope s_check_shape) := ⟨rfl, rfl, rfl, by decide +kernel, rfl, by decide +kernel, by decide +kernel⟩
def b_check_shape (Z : Zs) : SD :=
  (dIf (xbLift (dNot (dBl (dSh (dCall fn_is_shape (daCons (dVar 0) daNil)))))) (dRaise Z.NoShape) dNext)
def fn_check_shape (Z : Zs) : FnT := fnD 1 1 [true] (b_check_shape Z)
/-! ### letters_of -/
abbrev s_letters_of : Stmt := topS 21
abbrev N_letters_of : List Str := ["shape", "letters", "values", "letter", "value"]
theorem sc_letters_of : FnScope N_letters_of ["shape"] (defScope s_letters_of) := ⟨rfl, rfl, rfl, by decide +kernel, rfl, by decide +kernel, by decide +kernel⟩
def b_letters_of (Z : Zs) : SD :=
  (dSeq (dDrop (dCallX (fn_check_shape Z) (daCons (dVar 0) daNil)))
    (dSeq (dAsg (xLift (dWith (fdCons (dSh (dWith fdNil gTupD)) fdNil) gLstD)) (gdName 1))
    (dSeq (dFor (dItemsT (dSh (dVar 0))) (gdName 2) (dAsg (xLift (dComp2 (dItemsL (dSh (dVar 1))) (gdName 3) dYes (dRange1 (fdCons (dSh (dVar 2)) fdNil)) (gdName 4) dYes (dMv (dOp gCatT (dSh (dVar 3)) (dSh (dWith (fdCons (dSh (dVar 4)) fdNil) gTupD)))) [3, 4] [4])) (gdName 1)))
    (dRet (xLift (dVar 1))))))
def fn_letters_of (Z : Zs) : FnT := fnD 1 5 [true] (b_letters_of Z)
/-! ### _law_mixed -/
abbrev s__law_mixed : Stmt := topS 23
abbrev N__law_mixed : List Str := ["_law_cell_here", "_law_k", "_law_number"]
theorem sc__law_mixed : FnScope N__law_mixed ["_law_cell_here", "_law_k"] (defScope s__law_mixed) := ⟨rfl, rfl, rfl, by decide +kernel, rfl, by decide +kernel, by decide +kernel⟩
def b__law_mixed : SD :=
  (dSeq (dAsg (xLift (dOp gMod (dSh (dOp gAdd (dSh (dOp gAdd (dSh (dOp gMul (dSh (dOp gMod (dSh (dVar 0)) (dSh (dC (.int 2147483647))))) (dSh (dC (.int 48271))))) (dSh (dOp gMul (dSh (dVar 1)) (dSh (dC (.int 69621))))))) (dSh (dC (.int 1048583))))) (dSh (dC (.int 2147483629))))) (gdName 2))
    (dSeq (dAsg (xLift (dOp gMod (dSh (dOp gMul (dSh (dVar 2)) (dSh (dVar 2)))) (dSh (dC (.int 2147483587))))) (gdName 2))
    (dRet (xLift (dOp gMod (dSh (dOp gMul (dSh (dVar 2)) (dSh (dOp gAdd (dSh (dVar 2)) (dSh (dC (.int 2))))))) (dSh (dC (.int 2147483579))))))))
def fn__law_mixed : FnT := fnD 2 3 [true, true] (b__law_mixed)
/-! ### _law_cell -/
abbrev s__law_cell : Stmt := topS 24
abbrev N__law_cell : List Str := ["_law_script", "_law_k", "_law_cell_here", "_law_found", "_law_j"]
theorem sc__law_cell : FnScope N__law_cell ["_law_script", "_law_k"] (defScope s__law_cell) := ⟨rfl, rfl, rfl, by decide +kernel, rfl, by decide +kernel, by decide +kernel⟩
def b__law_cell : SD :=
  (dSeq (dAsg (xLift (dC (.int 0))) (gdName 2))
    (dSeq (dIf (xbLift (dBl (dSh (dOp gLt (dSh (dVar 1)) (dSh (dWith (fdCons (dSh (dVar 0)) fdNil) gLen)))))) (dAsg (xLift (dOp gIx (dSh (dVar 0)) (dSh (dVar 1)))) (gdName 2)) dNext)
    (dSeq (dIf (xbLift (dBl (dSh (dOp gGe (dSh (dVar 2)) (dSh (dOp gPow (dSh (dC (.int 10))) (dSh (dC (.int 18))))))))) (dRet (xLift (dOp gMod (dSh (dOp gSubI (dSh (dVar 2)) (dSh (dOp gPow (dSh (dC (.int 10))) (dSh (dC (.int 18))))))) (dSh (dOp gMul (dSh (dOp gMul (dSh (dOp gMul (dSh (dOp gPow (dSh (dC (.int 10))) (dSh (dC (.int 60))))) (dSh (dOp gPow (dSh (dC (.int 10))) (dSh (dC (.int 60))))))) (dSh (dOp gPow (dSh (dC (.int 10))) (dSh (dC (.int 60))))))) (dSh (dOp gPow (dSh (dC (.int 10))) (dSh (dC (.int 60)))))))))) dNext)
    (dSeq (dAsg (xLift (dC (.int 0))) (gdName 3))
    (dSeq (dFor (dRange1 (fdCons (dSh (dC (.int 24))) fdNil)) (gdName 4) (dAsg (xLift (dOp gAdd (dSh (dOp gMul (dSh (dVar 3)) (dSh (dC (.int 2147483579))))) (dSh (dCall fn__law_mixed (daCons (dVar 2) (daCons (dOp gAdd (dSh (dOp gAdd (dSh (dOp gMul (dSh (dC (.int 7))) (dSh (dVar 1)))) (dSh (dOp gMul (dSh (dC (.int 100))) (dSh (dVar 4)))))) (dSh (dOp gMul (dSh (dVar 4)) (dSh (dVar 4))))) daNil)))))) (gdName 3)))
    (dRet (xLift (dVar 3))))))))
def fn__law_cell : FnT := fnD 2 5 [true, true] (b__law_cell)
/-! ### _law_take -/
abbrev s__law_take : Stmt := topS 25
abbrev N__law_take : List Str := ["_law_pile", "_law_size", "_law_digit"]
theorem sc__law_take : FnScope N__law_take ["_law_pile", "_law_size"] (defScope s__law_take) := ⟨rfl, rfl, rfl, by decide +kernel, rfl, by decide +kernel, by decide +kernel⟩
def b__law_take : SD :=
  (dSeq (dAsg (xLift (dOp gMod (dSh (dIxO 0 (dSh (dC (.int 0))))) (dSh (dVar 1)))) (gdName 2))
    (dSeq (dAsg (xLift (dOp gDiv (dSh (dIxO 0 (dSh (dC (.int 0))))) (dSh (dVar 1)))) (gdIx 0 (dSh (dC (.int 0)))))
    (dRet (xLift (dVar 2)))))
def fn__law_take : FnT := fnD 2 3 [true, true] (b__law_take)
/-! ### _law_whole -/
abbrev s__law_whole : Stmt := topS 26
abbrev N__law_whole : List Str := ["_law_thing"]
theorem sc__law_whole : FnScope N__law_whole ["_law_thing"] (defScope s__law_whole) := ⟨rfl, rfl, rfl, by decide +kernel, rfl, by decide +kernel, by decide +kernel⟩
def b__law_whole : SD :=
  (dRet (xLift (dBool (dAnd (dBl (dSh (dIsi .int (dSh (dVar 0))))) (dBl (dSh (dBool (dNot (dBl (dSh (dIsi .bool (dSh (dVar 0)))))))))))))
def fn__law_whole : FnT := fnD 1 1 [true] (b__law_whole)
/-! ### _law_only -/
abbrev s__law_only : Stmt := topS 27
abbrev N__law_only : List Str := ["_law_error", "_law_name", "_law_names", "_law_told", "_law_both", "_law_word", "_law_one"]
theorem sc__law_only : FnScope N__law_only ["_law_error", "_law_name"] (defScope s__law_only) := ⟨rfl, rfl, rfl, by decide +kernel, rfl, by decide +kernel, by decide +kernel⟩
noncomputable def b__law_only (K : PySem.W.Frag) (Z : Zs) : SD :=
  (dSeq (dAsg (xLift (dWith (fdCons (dSh (dC (.str "NoCount"))) (fdCons (dSh (dC (.str "NoLetter"))) (fdCons (dSh (dC (.str "NoLine"))) (fdCons (dSh (dC (.str "NoName"))) (fdCons (dSh (dC (.str "NoSaying"))) (fdCons (dSh (dC (.str "NoShape"))) fdNil)))))) gLstD)) (gdName 2))
    (dSeq (dAsg (xLift (dOp gCatL (dSh (dVar 2)) (dSh (dWith (fdCons (dSh (dC (.str "NoTable"))) (fdCons (dSh (dC (.str "NoTest"))) (fdCons (dSh (dC (.str "NoText"))) (fdCons (dSh (dC (.str "NoUndo"))) (fdCons (dSh (dC (.str "TooMany"))) fdNil))))) gLstD)))) (gdName 2))
    (dSeq (dAsg (xLift (dWith (fdCons (dSh (dIsX K (.ref Z.NoCount) (dSh (dVar 0)))) (fdCons (dSh (dIsX K (.ref Z.NoLetter) (dSh (dVar 0)))) (fdCons (dSh (dIsX K (.ref Z.NoLine) (dSh (dVar 0)))) fdNil))) gLstD)) (gdName 3))
    (dSeq (dAsg (xLift (dOp gCatL (dSh (dVar 3)) (dSh (dWith (fdCons (dSh (dIsX K (.ref Z.NoName) (dSh (dVar 0)))) (fdCons (dSh (dIsX K (.ref Z.NoSaying) (dSh (dVar 0)))) (fdCons (dSh (dIsX K (.ref Z.NoShape) (dSh (dVar 0)))) fdNil))) gLstD)))) (gdName 3))
    (dSeq (dAsg (xLift (dOp gCatL (dSh (dVar 3)) (dSh (dWith (fdCons (dSh (dIsX K (.ref Z.NoTable) (dSh (dVar 0)))) (fdCons (dSh (dIsX K (.ref Z.NoTest) (dSh (dVar 0)))) (fdCons (dSh (dIsX K (.ref Z.NoText) (dSh (dVar 0)))) fdNil))) gLstD)))) (gdName 3))
    (dSeq (dAsg (xLift (dOp gCatL (dSh (dVar 3)) (dSh (dWith (fdCons (dSh (dIsX K (.ref Z.NoUndo) (dSh (dVar 0)))) (fdCons (dSh (dIsX K (.ref Z.TooMany) (dSh (dVar 0)))) fdNil)) gLstD)))) (gdName 3))
    (dSeq (dAsg (xLift (dBool (dAnd (dBl (dSh (dIsX K (.ref Z.SayError) (dSh (dVar 0))))) (dBl (dSh (dIsX K (.type "ValueError") (dSh (dVar 0)))))))) (gdName 4))
    (dRet (xLift (dBool (dAnd (dBl (dSh (dVar 4))) (dBl (dSh (dOp gEq (dSh (dComp (dZip (fdCons (dSh (dVar 2)) (fdCons (dSh (dVar 3)) fdNil))) (gdTup 2 (gdCons (gdName 5) (gdCons (gdName 6) gdNil))) (dTru (dSh (dVar 6))) (dMv (dVar 5)) [5, 6])) (dSh (dWith (fdCons (dSh (dVar 1)) fdNil) gLstD))))))))))))))))
noncomputable def fn__law_only (K : PySem.W.Frag) (Z : Zs) : FnT := fnD 2 7 [true, true] (b__law_only K Z)
/-! ### _law_letters -/
abbrev s__law_letters : Stmt := topS 28
abbrev N__law_letters : List Str := ["_law_shape", "_law_found", "_law_count", "_law_longer", "_law_letter", "_law_value"]
theorem sc__law_letters : FnScope N__law_letters ["_law_shape"] (defScope s__law_letters) := ⟨rfl, rfl, rfl, by decide +kernel, rfl, by decide +kernel, by decide +kernel⟩
def b__law_letters : SD :=
  (dSeq (dAsg (xLift (dWith (fdCons (dSh (dWith fdNil gTupD)) fdNil) gLstD)) (gdName 1))
    (dSeq (dFor (dItemsT (dSh (dVar 0))) (gdName 2) (dSeq (dAsg (xLift (dWith fdNil gLstD)) (gdName 3))
    (dSeq (dFor (dItemsL (dSh (dVar 1))) (gdName 4) (dAsg (xLift (dOp gCatL (dSh (dVar 3)) (dSh (dComp (dRange1 (fdCons (dSh (dVar 2)) fdNil)) (gdName 5) dYes (dMv (dOp gCatT (dSh (dVar 4)) (dSh (dWith (fdCons (dSh (dVar 5)) fdNil) gTupD)))) [5])))) (gdName 3)))
    (dAsg (xLift (dVar 3)) (gdName 1)))))
    (dRet (xLift (dVar 1)))))
def fn__law_letters : FnT := fnD 1 6 [true] (b__law_letters)
/-! ### _law_is_shape -/
abbrev s__law_is_shape : Stmt := topS 29
abbrev N__law_is_shape : List Str := ["_law_thing", "_law_many", "_law_count"]
theorem sc__law_is_shape : FnScope N__law_is_shape ["_law_thing"] (defScope s__law_is_shape) := ⟨rfl, rfl, rfl, by decide +kernel, rfl, by decide +kernel, by decide +kernel⟩
def b__law_is_shape : SD :=
  (dSeq (dIf (xbLift (dOr (dNot (dBl (dSh (dIsi .tuple (dSh (dVar 0)))))) (dOr (dBl (dSh (dOp gLt (dSh (dWith (fdCons (dSh (dVar 0)) fdNil) gLen)) (dSh (dC (.int 1)))))) (dBl (dSh (dOp gGt (dSh (dWith (fdCons (dSh (dVar 0)) fdNil) gLen)) (dSh (dC (.int 3))))))))) (dRet (xLift (dC (.bl false)))) dNext)
    (dSeq (dAsg (xLift (dC (.int 1))) (gdName 1))
    (dSeq (dFor (dItemsT (dSh (dVar 0))) (gdName 2) (dSeq (dIf (xbLift (dOr (dNot (dBl (dSh (dCall fn__law_whole (daCons (dVar 2) daNil))))) (dOr (dBl (dSh (dOp gLt (dSh (dVar 2)) (dSh (dC (.int 1)))))) (dBl (dSh (dOp gGt (dSh (dVar 2)) (dSh (dC (.int 4))))))))) (dRet (xLift (dC (.bl false)))) dNext)
    (dAsg (xLift (dOp gMul (dSh (dVar 1)) (dSh (dVar 2)))) (gdName 1))))
    (dRet (xLift (dOp gLt (dSh (dVar 1)) (dSh (dC (.int 28)))))))))
def fn__law_is_shape : FnT := fnD 1 3 [true] (b__law_is_shape)
/-! ### _law_asked -/
abbrev s__law_asked : Stmt := topS 30
abbrev N__law_asked : List Str := ["_law_thing", "_law_found", "_law_error", "e"]
theorem sc__law_asked : FnScope N__law_asked ["_law_thing"] (defScope s__law_asked) := ⟨rfl, rfl, rfl, by decide +kernel, rfl, by decide +kernel, by decide +kernel⟩
noncomputable def b__law_asked (K : PySem.W.Frag) (Z : Zs) : SD :=
  (dSeq (dAsg (xLift (dC .non)) (gdName 1))
    (dSeq (dAsg (xLift (dC .non)) (gdName 2))
    (dSeq (dTry K (.ref Z.SayError) 3 2 (dAsg (dCallX (fn_letters_of Z) (daCons (dVar 0) daNil)) (gdName 1)))
    (dRet (xLift (dLstO (mdCons (dMv (dMove 1)) (mdCons (dMv (dMove 2)) mdNil))))))))
noncomputable def fn__law_asked (K : PySem.W.Frag) (Z : Zs) : FnT := fnD 1 4 [true] (b__law_asked K Z)
/-! ### _law_good -/
abbrev s__law_good : Stmt := topS 31
abbrev N__law_good : List Str := ["_law_thing", "_law_text", "_law_found", "_law_told", "_law_error", "_law_letter", "_law_value"]
theorem sc__law_good : FnScope N__law_good ["_law_thing"] (defScope s__law_good) := ⟨rfl, rfl, rfl, by decide +kernel, rfl, by decide +kernel, by decide +kernel⟩
noncomputable def b__law_good (K : PySem.W.Frag) (Z : Zs) : SD :=
  (dSeq (dAsg (xLift (dWith (fdCons (dSh (dVar 0)) fdNil) gRep)) (gdName 1))
    (dSeq (dAsg (xLift (dCall fn_is_shape (daCons (dVar 0) daNil))) (gdName 2))
    (dSeq (dAsg (xLift (dCall (fn__law_asked K Z) (daCons (dVar 0) daNil))) (gdLst 2 (gdCons (gdName 3) (gdCons (gdName 4) gdNil))))
    (dSeq (dIf (xbLift (dOr (dNot (dBl (dSh (dIsi .bool (dSh (dVar 2)))))) (dOr (dBl (dSh (dOp gNe (dSh (dVar 2)) (dSh (dCall fn__law_is_shape (daCons (dVar 0) daNil)))))) (dBl (dSh (dOp gNe (dSh (dWith (fdCons (dSh (dVar 0)) fdNil) gRep)) (dSh (dVar 1)))))))) (dRet (xLift (dC (.bl false)))) dNext)
    (dSeq (dIf (xbLift (dNot (dTru (dSh (dVar 2))))) (dRet (xLift (dBool (dAnd (dBl (dSh (dOp gIsN (dSh (dVar 3)) (dSh (dC .non))))) (dBl (dSh (dCall (fn__law_only K Z) (daCons (dVar 4) (daCons (dC (.str "NoShape")) daNil))))))))) dNext)
    (dSeq (dIf (xbLift (dScalT (dOr (dBl (dSh (dOp gNotN (dSh (dVar 4)) (dSh (dC .non))))) (dOr (dNot (dBl (dSh (dLift (dScal (dSh (dIsi .list (dSh (dVar 3))))))))) (dBl (dSh (dOp gNe (dSh (dVar 3)) (dSh (dCall fn__law_letters (daCons (dVar 0) daNil)))))))))) (dRet (xLift (dC (.bl false)))) dNext)
    (dSeq (dIf (xbLift (dScalT (dNot (dBl (dSh (dWith (fdCons (dSh (dComp (dItemsL (dSh (dVar 3))) (gdName 5) dYes (dMv (dBool (dAnd (dBl (dSh (dIsi .tuple (dSh (dVar 5))))) (dBl (dSh (dWith (fdCons (dSh (dComp (dItemsT (dSh (dVar 5))) (gdName 6) dYes (dMv (dCall fn__law_whole (daCons (dVar 6) daNil))) [6])) fdNil) gAll)))))) [5])) fdNil) gAll)))))) (dRet (xLift (dC (.bl false)))) dNext)
    (dSeq (dDrop (xLift (dClear 3)))
    (dRet (xLift (dBool (dAnd (dBl (dSh (dOp gEq (dSh (dCall (fn_letters_of Z) (daCons (dWith (fdCons (dSh (dC (.int 2))) fdNil) gTupD) daNil))) (dSh (dWith (fdCons (dSh (dWith (fdCons (dSh (dC (.int 0))) fdNil) gTupD)) (fdCons (dSh (dWith (fdCons (dSh (dC (.int 1))) fdNil) gTupD)) fdNil)) gLstD))))) (dBl (dSh (dOp gEq (dSh (dCall (fn_letters_of Z) (daCons (dVar 0) daNil))) (dSh (dCall fn__law_letters (daCons (dVar 0) daNil))))))))))))))))))
noncomputable def fn__law_good (K : PySem.W.Frag) (Z : Zs) : FnT := fnD 1 7 [true] (b__law_good K Z)
/-! ### law -/
abbrev s_law : Stmt := topS 32
abbrev N_law : List Str := ["_law_script", "_law_some", "_law_k", "_law_pile", "_law_shape", "_law_at", "_law_odd", "_law_thing", "_law_place"]
theorem sc_law : FnScope N_law ["_law_script"] (defScope s_law) := ⟨rfl, rfl, rfl, by decide +kernel, rfl, by decide +kernel, by decide +kernel⟩
noncomputable def b_law (K : PySem.W.Frag) (Z : Zs) : SD :=
  (dSeq (dAsg (xLift (dWith (fdCons (dSh (dC .non)) (fdCons (dSh (dC (.bl true))) (fdCons (dSh (dC (.int 0))) (fdCons (dSh (dC (.str ""))) (fdCons (dSh (dC (.str "22"))) (fdCons (dSh (dWith fdNil gTupD)) (fdCons (dSh (dWith fdNil gLstD)) (fdCons (dSh (dWith (fdCons (dSh (dC (.int 2))) fdNil) gLstD)) (fdCons (dSh (dWith (fdCons (dSh (dC (.int 3))) (fdCons (dSh (dC (.int 3))) (fdCons (dSh (dC (.int 3))) fdNil))) gTupD)) (fdCons (dSh (dWith (fdCons (dSh (dC (.int 4))) (fdCons (dSh (dC (.int 4))) (fdCons (dSh (dC (.int 1))) fdNil))) gTupD)) (fdCons (dSh (dWith (fdCons (dSh (dC (.int 4))) (fdCons (dSh (dC (.int 4))) (fdCons (dSh (dC (.int 2))) fdNil))) gTupD)) (fdCons (dSh (dWith (fdCons (dSh (dC (.int 4))) (fdCons (dSh (dC (.int 3))) (fdCons (dSh (dC (.int 2))) fdNil))) gTupD)) (fdCons (dSh (dWith (fdCons (dSh (dC (.int 4))) (fdCons (dSh (dC (.int 3))) (fdCons (dSh (dC (.int 3))) fdNil))) gTupD)) fdNil))))))))))))) gLstD)) (gdName 1))
    (dSeq (dAsg (xLift (dOp gCatL (dSh (dVar 1)) (dSh (dWith (fdCons (dSh (dWith (fdCons (dSh (dC (.int 3))) (fdCons (dSh (dC (.int 3))) (fdCons (dSh (dC (.int 4))) fdNil))) gTupD)) (fdCons (dSh (dWith (fdCons (dSh (dWith (fdCons (dSh (dC (.int 2))) fdNil) gTupD)) fdNil) gTupD)) fdNil)) gLstD)))) (gdName 1))
    (dSeq (dAsg (xLift (dOp gCatL (dSh (dVar 1)) (dSh (dWith (fdCons (dSh (dWith (fdCons (dSh (dC (.int 2))) (fdCons (dSh (dC (.bl true))) fdNil)) gTupD)) (fdCons (dSh (dWith (fdCons (dSh (dC (.int 1))) fdNil) gTupD)) (fdCons (dSh (dWith (fdCons (dSh (dC (.bl true))) fdNil) gTupD)) (fdCons (dSh (dWith (fdCons (dSh (dC (.bl false))) fdNil) gTupD)) (fdCons (dSh (dWith (fdCons (dSh (dOp gPow (dSh (dC (.int 10))) (dSh (dC (.int 29))))) fdNil) gTupD)) (fdCons (dSh (dWith (fdCons (dSh (dC (.int 2))) (fdCons (dSh (dC (.int 2))) (fdCons (dSh (dC (.int 2))) (fdCons (dSh (dC (.int 1))) fdNil)))) gTupD)) (fdCons (dSh (dWith (fdCons (dSh (dC (.int 27))) fdNil) gTupD)) (fdCons (dSh (dWith (fdCons (dSh (dC (.int 5))) (fdCons (dSh (dC (.int 5))) fdNil)) gTupD)) (fdCons (dSh (dWith (fdCons (dSh (dC (.int 2))) (fdCons (dSh (dC (.int 0))) fdNil)) gTupD)) (fdCons (dSh (dWith (fdCons (dSh (dC (.int 4))) (fdCons (dSh (dOp gSubI (dSh (dC (.int 0))) (dSh (dC (.int 4))))) fdNil)) gTupD)) fdNil)))))))))) gLstD)))) (gdName 1))
    (dSeq (dFor (dRange1 (fdCons (dSh (dC (.int 12))) fdNil)) (gdName 2) (dSeq (dAsg (xLift (dWith (fdCons (dSh (dCall fn__law_cell (daCons (dVar 0) (daCons (dVar 2) daNil)))) fdNil) gLstD)) (gdName 3))
    (dSeq (dAsg (xLift (dWith (fdCons (dSh (dComp (dRange1 (fdCons (dSh (dCall fn__law_take (daCons (dVar 3) (daCons (dC (.int 5)) daNil)))) fdNil)) (gdName 8) dYes (dMv (dOp gSubI (dSh (dCall fn__law_take (daCons (dVar 3) (daCons (dC (.int 7)) daNil)))) (dSh (dC (.int 1))))) [8])) fdNil) gTuple)) (gdName 4))
    (dSeq (dAsg (xLift (dCall fn__law_take (daCons (dVar 3) (daCons (dWith (fdCons (dSh (dWith (fdCons (dSh (dVar 4)) fdNil) gLen)) (fdCons (dSh (dC (.int 1))) fdNil)) gMax2) daNil)))) (gdName 5))
    (dSeq (dAsg (xLift (dOp gIx (dSh (dWith (fdCons (dSh (dC .non)) (fdCons (dSh (dC (.str "2"))) (fdCons (dSh (dC (.bl true))) (fdCons (dSh (dWith (fdCons (dSh (dC (.int 2))) fdNil) gLstD)) (fdCons (dSh (dWith (fdCons (dSh (dC (.int 2))) fdNil) gTupD)) (fdCons (dSh (dOp gAdd (dSh (dOp gPow (dSh (dC (.int 10))) (dSh (dC (.int 28))))) (dSh (dCall fn__law_take (daCons (dVar 3) (daCons (dC (.int 9)) daNil)))))) (fdCons (dSh (dOp gPow (dSh (dC (.int 10))) (dSh (dC (.int 21))))) fdNil))))))) gLstD)) (dSh (dCall fn__law_take (daCons (dVar 3) (daCons (dC (.int 7)) daNil)))))) (gdName 6))
    (dSeq (dAsg (xLift (dOp gCatL (dSh (dVar 1)) (dSh (dWith (fdCons (dSh (dVar 4)) (fdCons (dSh (dWith (fdCons (dSh (dVar 4)) fdNil) gList)) (fdCons (dSh (dOp gCatT (dSh (dOp gCatT (dSh (dSl gSlT (dSh (dVar 4)) pNo (pAt (dSh (dVar 5))))) (dSh (dWith (fdCons (dSh (dVar 6)) fdNil) gTupD)))) (dSh (dSl gSlT (dSh (dVar 4)) (pAt (dSh (dOp gAdd (dSh (dVar 5)) (dSh (dC (.int 1)))))) pNo)))) fdNil))) gLstD)))) (gdName 1))
    (dDrop (xLift (dAppend 1 (dMv (dWith (fdCons (dSh (dComp (dRange1 (fdCons (dSh (dOp gAdd (dSh (dC (.int 1))) (dSh (dCall fn__law_take (daCons (dVar 3) (daCons (dC (.int 3)) daNil)))))) fdNil)) (gdName 8) dYes (dMv (dOp gAdd (dSh (dC (.int 1))) (dSh (dCall fn__law_take (daCons (dVar 3) (daCons (dC (.int 4)) daNil)))))) [8])) fdNil) gTuple)))))))))))
    (dRet (xLift (dWith (fdCons (dSh (dComp (dItemsL (dSh (dVar 1))) (gdName 7) dYes (dMv (dCall (fn__law_good K Z) (daCons (dVar 7) daNil))) [7])) fdNil) gAll)))))))
noncomputable def fn_law (K : PySem.W.Frag) (Z : Zs) : FnT := fnD 1 9 [true] (b_law K Z)

end K1

set_option Elab.async false
set_option linter.all false
set_option maxRecDepth 100000
set_option maxHeartbeats 4000000
namespace K1
open PySem PySem.Spec PyProof.Rows L2 Q
theorem ok_is_number {P : Program} {w : World} {K : PySem.W.Frag} {mg : Str → Option Value} {base : Heap} {Z : Zs} {f : Addr} {fd : FuncData} (T : Txt K mg Z w) (F : Fun K "is_number" "is_number" s_is_number f fd) : FnG P w K mg base 1 f fd ["thing"] (spD K 1 fn_is_number) := by
  have h := fn_ok (P := P) (w := w) (mg := mg) (base := base) (k := 0) (g := b_is_number) (fx := [true]) F sc_is_number rfl (fun cdv A outer s H E gu hr => by
    have tk := takes_of (X := cxOf (L2.CX P w) P w K mg base N_is_number "is_number" (defScope s_is_number) f cdv A outer s H E) rfl rfl rfl rfl
    exact ⟨_, (pss_one (ps_ret (pe_and (pe_callB call_isi (by rfl) T.b_isinstance (by decide +kernel) (pa_cons (pv 0) (pa_cons (pe_bltn (v := .ty "int") (by rfl) T.b_int (by decide +kernel) rfl) pa_nil))) (pe_one (pe_not (pe_callB call_isi (by rfl) T.b_isinstance (by decide +kernel) (pa_cons (pv 0) (pa_cons (pe_bltn (v := .ty "bool") (by rfl) T.b_bool (by decide +kernel) rfl) pa_nil)))))))), (ds_ret (dx_of (de_andV (df_of (de_isi (c := .int) (df_of de_var))) (df_of (de_notV (df_of (de_isi (c := .bool) (df_of de_var))))))))⟩)
  exact h

end K1

set_option Elab.async false
set_option linter.all false
set_option maxRecDepth 100000
set_option maxHeartbeats 4000000
namespace K1
open PySem PySem.Spec PyProof.Rows L2 Q
theorem ok_is_shape {P : Program} {w : World} {K : PySem.W.Frag} {mg : Str → Option Value} {base : Heap} {Z : Zs} {f : Addr} {fd : FuncData} (T : Txt K mg Z w) (F : Fun K "is_shape" "is_shape" s_is_shape f fd) (E_is_number : FnE P w K mg base 1 "is_number" ["thing"] fn_is_number) : FnG P w K mg base 2 f fd ["thing"] (spD K 1 fn_is_shape) := by
  have h := fn_ok (P := P) (w := w) (mg := mg) (base := base) (k := 1) (g := b_is_shape) (fx := [true]) F sc_is_shape rfl (fun cdv A outer s H E gu hr => by
    have tk := takes_of (X := cxOf (L2.CX P w) P w K mg base N_is_shape "is_shape" (defScope s_is_shape) f cdv A outer s H E) rfl rfl rfl rfl
    exact ⟨_, (pss_cons (ps_if (PW.pt (pw_or (pt_not (pt_val (pe_callB call_isi (by rfl) T.b_isinstance (by decide +kernel) (pa_cons (pv 0) (pa_cons (pe_bltn (v := .ty "tuple") (by rfl) T.b_tuple (by decide +kernel) rfl) pa_nil))))) (pw_or1 (pt_not (pt_chain op_le op_le pe_int (pe_callB call_len (by rfl) T.b_len (by decide +kernel) (pa_cons (pv 0) pa_nil)) (pe_glob (v := .int 3) (by rfl) T.k_MOST_FIELDS ⟨_, rfl⟩)))))) (pss_one (ps_ret pe_bl)) pss_nil)
    (pss_cons (ps_set (i := 1) sc_is_shape.nd rfl (Or.inl rfl) pe_int)
    (pss_cons (ps_for (passes_of rfl) rfl (pi_tup (pv 0)) (pg_name (i := 2) sc_is_shape.nd rfl (Or.inl rfl)) (pss_cons (ps_if (PW.pt (pw_or (pt_not (pt_val (pe_fnE E_is_number (Room.mono hr (by omega)) gu (by rfl) (fun σ => passNo σ) (pa_cons (pv 2) pa_nil)))) (pw_or1 (pt_not (pt_chain op_le op_le pe_int (pv 2) (pe_glob (v := .int 4) (by rfl) T.k_MOST_VALUES ⟨_, rfl⟩)))))) (pss_one (ps_ret pe_bl)) pss_nil)
    (pss_one (ps_aug (i := 1) sc_is_shape.nd rfl (Or.inl rfl) (pv 2) iop_mul))))
    (pss_one (ps_ret (pe_cmpR op_le (pv 1) (pe_glob (v := .int 27) (by rfl) T.k_MOST_LETTERS ⟨_, rfl⟩) (nomark _))))))), (ds_seq (ds_if (dtx_of (dt_or (dt_not (dt_bl (df_of (de_isi (c := .tuple) (df_of de_var))))) (dt_not (dt_test (df_of (de_chain (df_of (de_c fun _ => .int 1)) (df_of (de_with (fd_cons (df_of de_var) fd_nil) dc_len)) (df_of (de_c fun _ => .int 3)) dc_le dc_le)))))) (ds_ret (dx_of (de_c fun _ => .bl false))) ds_next)
    (ds_seq (ds_asg (dx_of (de_c fun _ => .int 1)) (dg_name (by rfl)))
    (ds_seq (ds_for (di_tup (df_of de_var)) (dg_name (by rfl)) (ds_seq (ds_if (dtx_of (dt_or (dt_not (dt_bl (df_of (de_fn E_is_number.len (da_cons de_var da_nil))))) (dt_not (dt_test (df_of (de_chain (df_of (de_c fun _ => .int 1)) (df_of de_var) (df_of (de_c fun _ => .int 4)) dc_le dc_le)))))) (ds_ret (dx_of (de_c fun _ => .bl false))) ds_next)
    (ds_aug (by rfl) (df_of de_var) dc_mul1)))
    (ds_ret (dx_of (de_op (df_of de_var) (df_of (de_c fun _ => .int 27)) dc_le))))))⟩)
  exact h

end K1

set_option Elab.async false
set_option linter.all false
set_option maxRecDepth 100000
set_option maxHeartbeats 4000000
namespace K1
open PySem PySem.Spec PyProof.Rows L2 Q
theorem ok_check_shape {P : Program} {w : World} {K : PySem.W.Frag} {mg : Str → Option Value} {base : Heap} {Z : Zs} {f : Addr} {fd : FuncData} (T : Txt K mg Z w) (F : Fun K "check_shape" "check_shape" s_check_shape f fd) (E_is_shape : FnE P w K mg base 2 "is_shape" ["thing"] fn_is_shape) : FnG P w K mg base 3 f fd ["shape"] (spD K 1 (fn_check_shape Z)) := by
  have h := fn_ok (P := P) (w := w) (mg := mg) (base := base) (k := 2) (g := b_check_shape Z) (fx := [true]) F sc_check_shape rfl (fun cdv A outer s H E gu hr => by
    have tk := takes_of (X := cxOf (L2.CX P w) P w K mg base N_check_shape "check_shape" (defScope s_check_shape) f cdv A outer s H E) rfl rfl rfl rfl
    exact ⟨_, (pss_one (ps_if (pt_not (pt_val (pe_fnE E_is_shape (Room.mono hr (by omega)) gu (by rfl) (fun σ => passNo σ) (pa_cons (pv 0) pa_nil)))) (pss_one (ps_raise rfl tk (pmk_own PySem.F.excBase_ValueError T.x_NoShape T.c_NoShape T.p_NoShape (raises_own T.u_NoShape T.t_NoShape) (by rfl)))) pss_nil)), (ds_if (dtx_of (dt_not (dt_bl (df_of (de_fn E_is_shape.len (da_cons de_var da_nil)))))) ds_raise ds_next)⟩)
  exact h

end K1

set_option Elab.async false
set_option linter.all false
set_option maxRecDepth 100000
set_option maxHeartbeats 4000000
namespace K1
open PySem PySem.Spec PyProof.Rows L2 Q
theorem ok_letters_of {P : Program} {w : World} {K : PySem.W.Frag} {mg : Str → Option Value} {base : Heap} {Z : Zs} {f : Addr} {fd : FuncData} (T : Txt K mg Z w) (F : Fun K "letters_of" "letters_of" s_letters_of f fd) (E_check_shape : FnE P w K mg base 3 "check_shape" ["shape"] (fn_check_shape Z)) : FnG P w K mg base 4 f fd ["shape"] (spD K 1 (fn_letters_of Z)) := by
  have h := fn_ok (P := P) (w := w) (mg := mg) (base := base) (k := 3) (g := b_letters_of Z) (fx := [true]) F sc_letters_of rfl (fun cdv A outer s H E gu hr => by
    have tk := takes_of (X := cxOf (L2.CX P w) P w K mg base N_letters_of "letters_of" (defScope s_letters_of) f cdv A outer s H E) rfl rfl rfl rfl
    exact ⟨_, (pss_cons (ps_expr (pe_fnE (E := WE _) E_check_shape (Room.mono hr (by omega)) gu (by rfl) (fun σ => passAt tk σ) (pa_cons (pv 0) pa_nil)))
    (pss_cons (ps_set (i := 1) sc_letters_of.nd rfl (Or.inl rfl) (pe_lst (pa_cons (pe_tup pa_nil) pa_nil)))
    (pss_cons (ps_for (passes_of rfl) rfl (pi_tup (pv 0)) (pg_name (i := 2) sc_letters_of.nd rfl (Or.inr rfl)) (pss_one (ps_setLc2 (i := 1) (own := [("letter", 3), ("value", 4)]) (vs1 := [4]) rfl sc_letters_of.nd rfl rfl (sw_true rfl rfl rfl (by decide +kernel)) (pi_list (pv 1)) (blkOk_by (N := N_letters_of) (sc := defScope s_letters_of) (by decide +kernel)) (by decide) (fun _ _ _ _ _ => (pg_name (i := 3) sc_letters_of.nd rfl (Or.inl rfl))) (fun _ _ _ _ _ => pts_nil) (fun _ _ _ _ _ => (pi_range1 (by rfl) T.b_range (pa_cons (pv 2) pa_nil))) (fun _ _ _ _ _ => (pg_name (i := 4) sc_letters_of.nd rfl (Or.inl rfl))) (fun _ _ _ _ _ => pts_nil) (fun _ _ _ _ _ => (pe_op op_catA (pv 3) (pe_tup (pa_cons (pv 4) pa_nil)))))))
    (pss_one (ps_ret (pv 1)))))), (ds_seq (ds_drop (dx_ucall E_check_shape.len (da_cons de_var da_nil)))
    (ds_seq (ds_asg (dx_of (de_lst (fd_cons (df_of (de_tup fd_nil)) fd_nil))) (dg_name (by rfl)))
    (ds_seq (ds_for (di_tup (df_of de_var)) (dg_name (by rfl)) (ds_asg (dx_of (de_comp2 (by decide) (di_list (df_of de_var)) (dg_name (by rfl)) dt_yes (di_range1 (fd_cons (df_of de_var) fd_nil)) (dg_name (by rfl)) dt_yes (dm_of (de_op (df_of de_var) (df_of (de_tup (fd_cons (df_of de_var) fd_nil))) dc_catT)))) (dg_name (by rfl))))
    (ds_ret (dx_of de_var)))))⟩)
  exact h

end K1

set_option Elab.async false
set_option linter.all false
set_option maxRecDepth 100000
set_option maxHeartbeats 4000000
namespace K1
open PySem PySem.Spec PyProof.Rows L2 Q
theorem ok__law_mixed {P : Program} {w : World} {K : PySem.W.Frag} {mg : Str → Option Value} {base : Heap} {Z : Zs} {f : Addr} {fd : FuncData} (T : Txt K mg Z w) (F : Fun K "_law_mixed" "_law_mixed" s__law_mixed f fd) : FnG P w K mg base 1 f fd ["_law_cell_here", "_law_k"] (spD K 2 fn__law_mixed) := by
  have h := fn_ok (P := P) (w := w) (mg := mg) (base := base) (k := 0) (g := b__law_mixed) (fx := [true, true]) F sc__law_mixed rfl (fun cdv A outer s H E gu hr => by
    have tk := takes_of (X := cxOf (L2.CX P w) P w K mg base N__law_mixed "_law_mixed" (defScope s__law_mixed) f cdv A outer s H E) rfl rfl rfl rfl
    exact ⟨_, (pss_cons (ps_set (i := 2) sc__law_mixed.nd rfl (Or.inl rfl) (pe_op op_mod (pe_op op_add (pe_op op_add (pe_op op_mulW (pe_op op_mod (pv 0) pe_int) pe_int) (pe_op op_mulW (pv 1) pe_int)) pe_int) pe_int))
    (pss_cons (ps_set (i := 2) sc__law_mixed.nd rfl (Or.inl rfl) (pe_op op_mod (pe_op op_mulW (pv 2) (pv 2)) pe_int))
    (pss_one (ps_ret (pe_op op_mod (pe_op op_mulW (pv 2) (pe_op op_add (pv 2) pe_int)) pe_int))))), (ds_seq (ds_asg (dx_of (de_op (df_of (de_op (df_of (de_op (df_of (de_op (df_of (de_op (df_of de_var) (df_of (de_c fun _ => .int 2147483647)) dc_mod)) (df_of (de_c fun _ => .int 48271)) dc_mul)) (df_of (de_op (df_of de_var) (df_of (de_c fun _ => .int 69621)) dc_mul)) dc_add)) (df_of (de_c fun _ => .int 1048583)) dc_add)) (df_of (de_c fun _ => .int 2147483629)) dc_mod)) (dg_name (by rfl)))
    (ds_seq (ds_asg (dx_of (de_op (df_of (de_op (df_of de_var) (df_of de_var) dc_mul)) (df_of (de_c fun _ => .int 2147483587)) dc_mod)) (dg_name (by rfl)))
    (ds_ret (dx_of (de_op (df_of (de_op (df_of de_var) (df_of (de_op (df_of de_var) (df_of (de_c fun _ => .int 2)) dc_add)) dc_mul)) (df_of (de_c fun _ => .int 2147483579)) dc_mod)))))⟩)
  exact h

end K1

set_option Elab.async false
set_option linter.all false
set_option maxRecDepth 100000
set_option maxHeartbeats 4000000
namespace K1
open PySem PySem.Spec PyProof.Rows L2 Q
theorem ok__law_cell {P : Program} {w : World} {K : PySem.W.Frag} {mg : Str → Option Value} {base : Heap} {Z : Zs} {f : Addr} {fd : FuncData} (T : Txt K mg Z w) (F : Fun K "_law_cell" "_law_cell" s__law_cell f fd) (E__law_mixed : FnE P w K mg base 1 "_law_mixed" ["_law_cell_here", "_law_k"] fn__law_mixed) : FnG P w K mg base 2 f fd ["_law_script", "_law_k"] (spD K 2 fn__law_cell) := by
  have h := fn_ok (P := P) (w := w) (mg := mg) (base := base) (k := 1) (g := b__law_cell) (fx := [true, true]) F sc__law_cell rfl (fun cdv A outer s H E gu hr => by
    have tk := takes_of (X := cxOf (L2.CX P w) P w K mg base N__law_cell "_law_cell" (defScope s__law_cell) f cdv A outer s H E) rfl rfl rfl rfl
    exact ⟨_, (pss_cons (ps_set (i := 2) sc__law_cell.nd rfl (Or.inl rfl) pe_int)
    (pss_cons (ps_if (pt_cmpR op_lt (pv 1) (pe_callB call_len (by rfl) T.b_len (by decide +kernel) (pa_cons (pv 0) pa_nil)) (nomark _)) (pss_one (ps_set (i := 2) sc__law_cell.nd rfl (Or.inl rfl) (pe_ix ix_seq (pv 0) (pv 1) (fun _ _ => rfl)))) pss_nil)
    (pss_cons (ps_if (pt_cmpR op_ge (pv 2) (pe_op op_pow pe_int pe_int) (nomark _)) (pss_one (ps_ret (pe_op op_mod (pe_op op_sub (pv 2) (pe_op op_pow pe_int pe_int)) (pe_op op_mulW (pe_op op_mulW (pe_op op_mulW (pe_op op_pow pe_int pe_int) (pe_op op_pow pe_int pe_int)) (pe_op op_pow pe_int pe_int)) (pe_op op_pow pe_int pe_int))))) pss_nil)
    (pss_cons (ps_set (i := 3) sc__law_cell.nd rfl (Or.inl rfl) pe_int)
    (pss_cons (ps_for (passes_of rfl) rfl (pi_range1 (by rfl) T.b_range (pa_cons pe_int pa_nil)) (pg_name (i := 4) sc__law_cell.nd rfl (Or.inl rfl)) (pss_one (ps_set (i := 3) sc__law_cell.nd rfl (Or.inl rfl) (pe_op op_add (pe_op op_mulW (pv 3) pe_int) (pe_fnE E__law_mixed (Room.mono hr (by omega)) gu (by rfl) (fun σ => passNo σ) (pa_cons (pv 2) (pa_cons (pe_op op_add (pe_op op_add (pe_op op_mulW pe_int (pv 1)) (pe_op op_mulW pe_int (pv 4))) (pe_op op_mulW (pv 4) (pv 4))) pa_nil)))))))
    (pss_one (ps_ret (pv 3)))))))), (ds_seq (ds_asg (dx_of (de_c fun _ => .int 0)) (dg_name (by rfl)))
    (ds_seq (ds_if (dtx_of (dt_test (df_of (de_op (df_of de_var) (df_of (de_with (fd_cons (df_of de_var) fd_nil) dc_len)) dc_lt)))) (ds_asg (dx_of (de_op (df_of de_var) (df_of de_var) dc_ix)) (dg_name (by rfl))) ds_next)
    (ds_seq (ds_if (dtx_of (dt_test (df_of (de_op (df_of de_var) (df_of (de_op (df_of (de_c fun _ => .int 10)) (df_of (de_c fun _ => .int 18)) dc_pow)) dc_ge)))) (ds_ret (dx_of (de_op (df_of (de_op (df_of de_var) (df_of (de_op (df_of (de_c fun _ => .int 10)) (df_of (de_c fun _ => .int 18)) dc_pow)) dc_sub)) (df_of (de_op (df_of (de_op (df_of (de_op (df_of (de_op (df_of (de_c fun _ => .int 10)) (df_of (de_c fun _ => .int 60)) dc_pow)) (df_of (de_op (df_of (de_c fun _ => .int 10)) (df_of (de_c fun _ => .int 60)) dc_pow)) dc_mul)) (df_of (de_op (df_of (de_c fun _ => .int 10)) (df_of (de_c fun _ => .int 60)) dc_pow)) dc_mul)) (df_of (de_op (df_of (de_c fun _ => .int 10)) (df_of (de_c fun _ => .int 60)) dc_pow)) dc_mul)) dc_mod))) ds_next)
    (ds_seq (ds_asg (dx_of (de_c fun _ => .int 0)) (dg_name (by rfl)))
    (ds_seq (ds_for (di_range1 (fd_cons (df_of (de_c fun _ => .int 24)) fd_nil)) (dg_name (by rfl)) (ds_asg (dx_of (de_op (df_of (de_op (df_of de_var) (df_of (de_c fun _ => .int 2147483579)) dc_mul)) (df_of (de_fn E__law_mixed.len (da_cons de_var (da_cons (de_op (df_of (de_op (df_of (de_op (df_of (de_c fun _ => .int 7)) (df_of de_var) dc_mul)) (df_of (de_op (df_of (de_c fun _ => .int 100)) (df_of de_var) dc_mul)) dc_add)) (df_of (de_op (df_of de_var) (df_of de_var) dc_mul)) dc_add) da_nil)))) dc_add)) (dg_name (by rfl))))
    (ds_ret (dx_of de_var)))))))⟩)
  exact h

end K1

set_option Elab.async false
set_option linter.all false
set_option maxRecDepth 100000
set_option maxHeartbeats 4000000
namespace K1
open PySem PySem.Spec PyProof.Rows L2 Q
theorem ok__law_take {P : Program} {w : World} {K : PySem.W.Frag} {mg : Str → Option Value} {base : Heap} {Z : Zs} {f : Addr} {fd : FuncData} (T : Txt K mg Z w) (F : Fun K "_law_take" "_law_take" s__law_take f fd) : FnG P w K mg base 1 f fd ["_law_pile", "_law_size"] (spD K 2 fn__law_take) := by
  have h := fn_ok (P := P) (w := w) (mg := mg) (base := base) (k := 0) (g := b__law_take) (fx := [true, true]) F sc__law_take rfl (fun cdv A outer s H E gu hr => by
    have tk := takes_of (X := cxOf (L2.CX P w) P w K mg base N__law_take "_law_take" (defScope s__law_take) f cdv A outer s H E) rfl rfl rfl rfl
    exact ⟨_, (pss_cons (ps_set (i := 2) sc__law_take.nd rfl (Or.inl rfl) (pe_op op_mod (pe_ix ix_seq (pv 0) pe_int (fun _ _ => rfl)) (pv 1)))
    (pss_cons (ps_asg (pe_op op_fdivW (pe_ix ix_seq (pv 0) pe_int (fun _ _ => rfl)) (pv 1)) (pg_sub (pv 0) pe_int set_list))
    (pss_one (ps_ret (pv 2))))), (ds_seq (ds_asg (dx_of (de_op (df_of (de_ixO (df_of (de_c fun _ => .int 0)))) (df_of de_var) dc_mod)) (dg_name (by rfl)))
    (ds_seq (ds_asg (dx_of (de_op (df_of (de_ixO (df_of (de_c fun _ => .int 0)))) (df_of de_var) dc_div)) (dg_ix (df_of (de_c fun _ => .int 0))))
    (ds_ret (dx_of de_var))))⟩)
  exact h

end K1

set_option Elab.async false
set_option linter.all false
set_option maxRecDepth 100000
set_option maxHeartbeats 4000000
namespace K1
open PySem PySem.Spec PyProof.Rows L2 Q
theorem ok__law_whole {P : Program} {w : World} {K : PySem.W.Frag} {mg : Str → Option Value} {base : Heap} {Z : Zs} {f : Addr} {fd : FuncData} (T : Txt K mg Z w) (F : Fun K "_law_whole" "_law_whole" s__law_whole f fd) : FnG P w K mg base 1 f fd ["_law_thing"] (spD K 1 fn__law_whole) := by
  have h := fn_ok (P := P) (w := w) (mg := mg) (base := base) (k := 0) (g := b__law_whole) (fx := [true]) F sc__law_whole rfl (fun cdv A outer s H E gu hr => by
    have tk := takes_of (X := cxOf (L2.CX P w) P w K mg base N__law_whole "_law_whole" (defScope s__law_whole) f cdv A outer s H E) rfl rfl rfl rfl
    exact ⟨_, (pss_one (ps_ret (pe_and (pe_callB call_isi (by rfl) T.b_isinstance (by decide +kernel) (pa_cons (pv 0) (pa_cons (pe_bltn (v := .ty "int") (by rfl) T.b_int (by decide +kernel) rfl) pa_nil))) (pe_one (pe_not (pe_callB call_isi (by rfl) T.b_isinstance (by decide +kernel) (pa_cons (pv 0) (pa_cons (pe_bltn (v := .ty "bool") (by rfl) T.b_bool (by decide +kernel) rfl) pa_nil)))))))), (ds_ret (dx_of (de_andV (df_of (de_isi (c := .int) (df_of de_var))) (df_of (de_notV (df_of (de_isi (c := .bool) (df_of de_var))))))))⟩)
  exact h

end K1

set_option Elab.async false
set_option linter.all false
set_option maxRecDepth 100000
set_option maxHeartbeats 4000000
namespace K1
open PySem PySem.Spec PyProof.Rows L2 Q
theorem ok__law_only {P : Program} {w : World} {K : PySem.W.Frag} {mg : Str → Option Value} {base : Heap} {Z : Zs} {f : Addr} {fd : FuncData} (T : Txt K mg Z w) (F : Fun K "_law_only" "_law_only" s__law_only f fd) : FnG P w K mg base 1 f fd ["_law_error", "_law_name"] (spD K 2 (fn__law_only K Z)) := by
  have h := fn_ok (P := P) (w := w) (mg := mg) (base := base) (k := 0) (g := b__law_only K Z) (fx := [true, true]) F sc__law_only rfl (fun cdv A outer s H E gu hr => by
    have tk := takes_of (X := cxOf (L2.CX P w) P w K mg base N__law_only "_law_only" (defScope s__law_only) f cdv A outer s H E) rfl rfl rfl rfl
    exact ⟨_, (pss_cons (ps_set (i := 2) sc__law_only.nd rfl (Or.inl rfl) (pe_lst (pa_cons pe_str (pa_cons pe_str (pa_cons pe_str (pa_cons pe_str (pa_cons pe_str (pa_cons pe_str pa_nil))))))))
    (pss_cons (ps_set (i := 2) sc__law_only.nd rfl (Or.inl rfl) (pe_op op_cat (pv 2) (pe_lst (pa_cons pe_str (pa_cons pe_str (pa_cons pe_str (pa_cons pe_str (pa_cons pe_str pa_nil))))))))
    (pss_cons (ps_set (i := 3) sc__law_only.nd rfl (Or.inl rfl) (pe_lst (pa_cons (pe_callB call_isX (by rfl) T.b_isinstance (by decide +kernel) (pa_cons (pv 0) (pa_cons (pe_glob (v := .ref Z.NoCount) (by rfl) T.c_NoCount rfl) pa_nil))) (pa_cons (pe_callB call_isX (by rfl) T.b_isinstance (by decide +kernel) (pa_cons (pv 0) (pa_cons (pe_glob (v := .ref Z.NoLetter) (by rfl) T.c_NoLetter rfl) pa_nil))) (pa_cons (pe_callB call_isX (by rfl) T.b_isinstance (by decide +kernel) (pa_cons (pv 0) (pa_cons (pe_glob (v := .ref Z.NoLine) (by rfl) T.c_NoLine rfl) pa_nil))) pa_nil)))))
    (pss_cons (ps_set (i := 3) sc__law_only.nd rfl (Or.inl rfl) (pe_op op_cat (pv 3) (pe_lst (pa_cons (pe_callB call_isX (by rfl) T.b_isinstance (by decide +kernel) (pa_cons (pv 0) (pa_cons (pe_glob (v := .ref Z.NoName) (by rfl) T.c_NoName rfl) pa_nil))) (pa_cons (pe_callB call_isX (by rfl) T.b_isinstance (by decide +kernel) (pa_cons (pv 0) (pa_cons (pe_glob (v := .ref Z.NoSaying) (by rfl) T.c_NoSaying rfl) pa_nil))) (pa_cons (pe_callB call_isX (by rfl) T.b_isinstance (by decide +kernel) (pa_cons (pv 0) (pa_cons (pe_glob (v := .ref Z.NoShape) (by rfl) T.c_NoShape rfl) pa_nil))) pa_nil))))))
    (pss_cons (ps_set (i := 3) sc__law_only.nd rfl (Or.inl rfl) (pe_op op_cat (pv 3) (pe_lst (pa_cons (pe_callB call_isX (by rfl) T.b_isinstance (by decide +kernel) (pa_cons (pv 0) (pa_cons (pe_glob (v := .ref Z.NoTable) (by rfl) T.c_NoTable rfl) pa_nil))) (pa_cons (pe_callB call_isX (by rfl) T.b_isinstance (by decide +kernel) (pa_cons (pv 0) (pa_cons (pe_glob (v := .ref Z.NoTest) (by rfl) T.c_NoTest rfl) pa_nil))) (pa_cons (pe_callB call_isX (by rfl) T.b_isinstance (by decide +kernel) (pa_cons (pv 0) (pa_cons (pe_glob (v := .ref Z.NoText) (by rfl) T.c_NoText rfl) pa_nil))) pa_nil))))))
    (pss_cons (ps_set (i := 3) sc__law_only.nd rfl (Or.inl rfl) (pe_op op_cat (pv 3) (pe_lst (pa_cons (pe_callB call_isX (by rfl) T.b_isinstance (by decide +kernel) (pa_cons (pv 0) (pa_cons (pe_glob (v := .ref Z.NoUndo) (by rfl) T.c_NoUndo rfl) pa_nil))) (pa_cons (pe_callB call_isX (by rfl) T.b_isinstance (by decide +kernel) (pa_cons (pv 0) (pa_cons (pe_glob (v := .ref Z.TooMany) (by rfl) T.c_TooMany rfl) pa_nil))) pa_nil)))))
    (pss_cons (ps_set (i := 4) sc__law_only.nd rfl (Or.inl rfl) (pe_and (pe_callB call_isX (by rfl) T.b_isinstance (by decide +kernel) (pa_cons (pv 0) (pa_cons (pe_glob (v := .ref Z.SayError) (by rfl) T.c_SayError rfl) pa_nil))) (pe_one (pe_callB call_isX (by rfl) T.b_isinstance (by decide +kernel) (pa_cons (pv 0) (pa_cons (pe_bltn (v := .ty "ValueError") (by rfl) T.b_ValueError (by decide +kernel) rfl) pa_nil))))))
    (pss_one (ps_ret (pe_and (pv 4) (pe_one (pe_cmpR (op_eqD hr.units) (pe_lc (own := [("_law_word", 5), ("_law_one", 6)]) rfl sc__law_only.nd (pi_zip (by rfl) T.b_zip (pa_cons (pv 2) (pa_cons (pv 3) pa_nil))) (blkOk_by (N := N__law_only) (sc := defScope s__law_only) (by decide +kernel)) (fun _ _ _ _ _ => (pg_tup rfl (pgs_cons (pg_name (i := 5) sc__law_only.nd rfl (Or.inl rfl)) (pgs_cons (pg_name (i := 6) sc__law_only.nd rfl (Or.inl rfl)) pgs_nil)))) (fun _ _ _ _ _ => (pts_one (pt_truth (pv 6) (by intro _; rfl)))) (fun _ _ _ _ _ => (pv 5))) (pe_lst (pa_cons (pv 1) pa_nil)) (nomark _))))))))))))), (ds_seq (ds_asg (dx_of (de_lst (fd_cons (df_of (de_c fun _ => .str "NoCount")) (fd_cons (df_of (de_c fun _ => .str "NoLetter")) (fd_cons (df_of (de_c fun _ => .str "NoLine")) (fd_cons (df_of (de_c fun _ => .str "NoName")) (fd_cons (df_of (de_c fun _ => .str "NoSaying")) (fd_cons (df_of (de_c fun _ => .str "NoShape")) fd_nil)))))))) (dg_name (by rfl)))
    (ds_seq (ds_asg (dx_of (de_op (df_of de_var) (df_of (de_lst (fd_cons (df_of (de_c fun _ => .str "NoTable")) (fd_cons (df_of (de_c fun _ => .str "NoTest")) (fd_cons (df_of (de_c fun _ => .str "NoText")) (fd_cons (df_of (de_c fun _ => .str "NoUndo")) (fd_cons (df_of (de_c fun _ => .str "TooMany")) fd_nil))))))) dc_catL)) (dg_name (by rfl)))
    (ds_seq (ds_asg (dx_of (de_lst (fd_cons (df_of (de_isX (.own _) (df_of de_var))) (fd_cons (df_of (de_isX (.own _) (df_of de_var))) (fd_cons (df_of (de_isX (.own _) (df_of de_var))) fd_nil))))) (dg_name (by rfl)))
    (ds_seq (ds_asg (dx_of (de_op (df_of de_var) (df_of (de_lst (fd_cons (df_of (de_isX (.own _) (df_of de_var))) (fd_cons (df_of (de_isX (.own _) (df_of de_var))) (fd_cons (df_of (de_isX (.own _) (df_of de_var))) fd_nil))))) dc_catL)) (dg_name (by rfl)))
    (ds_seq (ds_asg (dx_of (de_op (df_of de_var) (df_of (de_lst (fd_cons (df_of (de_isX (.own _) (df_of de_var))) (fd_cons (df_of (de_isX (.own _) (df_of de_var))) (fd_cons (df_of (de_isX (.own _) (df_of de_var))) fd_nil))))) dc_catL)) (dg_name (by rfl)))
    (ds_seq (ds_asg (dx_of (de_op (df_of de_var) (df_of (de_lst (fd_cons (df_of (de_isX (.own _) (df_of de_var))) (fd_cons (df_of (de_isX (.own _) (df_of de_var))) fd_nil)))) dc_catL)) (dg_name (by rfl)))
    (ds_seq (ds_asg (dx_of (de_andV (df_of (de_isX (.own _) (df_of de_var))) (df_of (de_isX (.ty _) (df_of de_var))))) (dg_name (by rfl)))
    (ds_ret (dx_of (de_andV (df_of de_var) (df_of (de_op (df_of (de_comp (di_zip (fd_cons (df_of de_var) (fd_cons (df_of de_var) fd_nil))) (dg_tup (dgs_cons (dg_name (by rfl)) (dgs_cons (dg_name (by rfl)) dgs_nil))) (dt_tru (df_of de_var)) (dm_of de_var))) (df_of (de_lst (fd_cons (df_of de_var) fd_nil))) dc_eq))))))))))))⟩)
  exact h

end K1

set_option Elab.async false
set_option linter.all false
set_option maxRecDepth 100000
set_option maxHeartbeats 4000000
namespace K1
open PySem PySem.Spec PyProof.Rows L2 Q
theorem ok__law_letters {P : Program} {w : World} {K : PySem.W.Frag} {mg : Str → Option Value} {base : Heap} {Z : Zs} {f : Addr} {fd : FuncData} (T : Txt K mg Z w) (F : Fun K "_law_letters" "_law_letters" s__law_letters f fd) : FnG P w K mg base 1 f fd ["_law_shape"] (spD K 1 fn__law_letters) := by
  have h := fn_ok (P := P) (w := w) (mg := mg) (base := base) (k := 0) (g := b__law_letters) (fx := [true]) F sc__law_letters rfl (fun cdv A outer s H E gu hr => by
    have tk := takes_of (X := cxOf (L2.CX P w) P w K mg base N__law_letters "_law_letters" (defScope s__law_letters) f cdv A outer s H E) rfl rfl rfl rfl
    exact ⟨_, (pss_cons (ps_set (i := 1) sc__law_letters.nd rfl (Or.inl rfl) (pe_lst (pa_cons (pe_tup pa_nil) pa_nil)))
    (pss_cons (ps_for (passes_of rfl) rfl (pi_tup (pv 0)) (pg_name (i := 2) sc__law_letters.nd rfl (Or.inl rfl)) (pss_cons (ps_set (i := 3) sc__law_letters.nd rfl (Or.inl rfl) (pe_lst pa_nil))
    (pss_cons (ps_for (passes_of rfl) rfl (pi_list (pv 1)) (pg_name (i := 4) sc__law_letters.nd rfl (Or.inr rfl)) (pss_one (ps_set (i := 3) sc__law_letters.nd rfl (Or.inl rfl) (pe_op op_cat (pv 3) (pe_lc (own := [("_law_value", 5)]) rfl sc__law_letters.nd (pi_range1 (by rfl) T.b_range (pa_cons (pv 2) pa_nil)) (blkOk_by (N := N__law_letters) (sc := defScope s__law_letters) (by decide +kernel)) (fun _ _ _ _ _ => (pg_name (i := 5) sc__law_letters.nd rfl (Or.inl rfl))) (fun _ _ _ _ _ => pts_nil) (fun _ _ _ _ _ => (pe_op op_catA (pv 4) (pe_tup (pa_cons (pv 5) pa_nil)))))))))
    (pss_one (ps_set (i := 1) sc__law_letters.nd rfl (Or.inl rfl) (pv 3))))))
    (pss_one (ps_ret (pv 1))))), (ds_seq (ds_asg (dx_of (de_lst (fd_cons (df_of (de_tup fd_nil)) fd_nil))) (dg_name (by rfl)))
    (ds_seq (ds_for (di_tup (df_of de_var)) (dg_name (by rfl)) (ds_seq (ds_asg (dx_of (de_lst fd_nil)) (dg_name (by rfl)))
    (ds_seq (ds_for (di_list (df_of de_var)) (dg_name (by rfl)) (ds_asg (dx_of (de_op (df_of de_var) (df_of (de_comp (di_range1 (fd_cons (df_of de_var) fd_nil)) (dg_name (by rfl)) dt_yes (dm_of (de_op (df_of de_var) (df_of (de_tup (fd_cons (df_of de_var) fd_nil))) dc_catT)))) dc_catL)) (dg_name (by rfl))))
    (ds_asg (dx_of de_var) (dg_name (by rfl))))))
    (ds_ret (dx_of de_var))))⟩)
  exact h

end K1

set_option Elab.async false
set_option linter.all false
set_option maxRecDepth 100000
set_option maxHeartbeats 4000000
namespace K1
open PySem PySem.Spec PyProof.Rows L2 Q
theorem ok__law_is_shape {P : Program} {w : World} {K : PySem.W.Frag} {mg : Str → Option Value} {base : Heap} {Z : Zs} {f : Addr} {fd : FuncData} (T : Txt K mg Z w) (F : Fun K "_law_is_shape" "_law_is_shape" s__law_is_shape f fd) (E__law_whole : FnE P w K mg base 1 "_law_whole" ["_law_thing"] fn__law_whole) : FnG P w K mg base 2 f fd ["_law_thing"] (spD K 1 fn__law_is_shape) := by
  have h := fn_ok (P := P) (w := w) (mg := mg) (base := base) (k := 1) (g := b__law_is_shape) (fx := [true]) F sc__law_is_shape rfl (fun cdv A outer s H E gu hr => by
    have tk := takes_of (X := cxOf (L2.CX P w) P w K mg base N__law_is_shape "_law_is_shape" (defScope s__law_is_shape) f cdv A outer s H E) rfl rfl rfl rfl
    exact ⟨_, (pss_cons (ps_if (PW.pt (pw_or (pt_not (pt_val (pe_callB call_isi (by rfl) T.b_isinstance (by decide +kernel) (pa_cons (pv 0) (pa_cons (pe_bltn (v := .ty "tuple") (by rfl) T.b_tuple (by decide +kernel) rfl) pa_nil))))) (pw_or (pt_cmpR op_lt (pe_callB call_len (by rfl) T.b_len (by decide +kernel) (pa_cons (pv 0) pa_nil)) pe_int (nomark _)) (pw_or1 (pt_cmpR op_gt (pe_callB call_len (by rfl) T.b_len (by decide +kernel) (pa_cons (pv 0) pa_nil)) pe_int (nomark _)))))) (pss_one (ps_ret pe_bl)) pss_nil)
    (pss_cons (ps_set (i := 1) sc__law_is_shape.nd rfl (Or.inl rfl) pe_int)
    (pss_cons (ps_for (passes_of rfl) rfl (pi_tup (pv 0)) (pg_name (i := 2) sc__law_is_shape.nd rfl (Or.inl rfl)) (pss_cons (ps_if (PW.pt (pw_or (pt_not (pt_val (pe_fnE E__law_whole (Room.mono hr (by omega)) gu (by rfl) (fun σ => passNo σ) (pa_cons (pv 2) pa_nil)))) (pw_or (pt_cmpR op_lt (pv 2) pe_int (nomark _)) (pw_or1 (pt_cmpR op_gt (pv 2) pe_int (nomark _)))))) (pss_one (ps_ret pe_bl)) pss_nil)
    (pss_one (ps_set (i := 1) sc__law_is_shape.nd rfl (Or.inl rfl) (pe_op op_mulW (pv 1) (pv 2))))))
    (pss_one (ps_ret (pe_cmpR op_lt (pv 1) pe_int (nomark _))))))), (ds_seq (ds_if (dtx_of (dt_or (dt_not (dt_bl (df_of (de_isi (c := .tuple) (df_of de_var))))) (dt_or (dt_test (df_of (de_op (df_of (de_with (fd_cons (df_of de_var) fd_nil) dc_len)) (df_of (de_c fun _ => .int 1)) dc_lt))) (dt_test (df_of (de_op (df_of (de_with (fd_cons (df_of de_var) fd_nil) dc_len)) (df_of (de_c fun _ => .int 3)) dc_gt)))))) (ds_ret (dx_of (de_c fun _ => .bl false))) ds_next)
    (ds_seq (ds_asg (dx_of (de_c fun _ => .int 1)) (dg_name (by rfl)))
    (ds_seq (ds_for (di_tup (df_of de_var)) (dg_name (by rfl)) (ds_seq (ds_if (dtx_of (dt_or (dt_not (dt_bl (df_of (de_fn E__law_whole.len (da_cons de_var da_nil))))) (dt_or (dt_test (df_of (de_op (df_of de_var) (df_of (de_c fun _ => .int 1)) dc_lt))) (dt_test (df_of (de_op (df_of de_var) (df_of (de_c fun _ => .int 4)) dc_gt)))))) (ds_ret (dx_of (de_c fun _ => .bl false))) ds_next)
    (ds_asg (dx_of (de_op (df_of de_var) (df_of de_var) dc_mul)) (dg_name (by rfl)))))
    (ds_ret (dx_of (de_op (df_of de_var) (df_of (de_c fun _ => .int 28)) dc_lt))))))⟩)
  exact h

end K1

set_option Elab.async false
set_option linter.all false
set_option maxRecDepth 100000
set_option maxHeartbeats 4000000
namespace K1
open PySem PySem.Spec PyProof.Rows L2 Q
theorem ok__law_asked {P : Program} {w : World} {K : PySem.W.Frag} {mg : Str → Option Value} {base : Heap} {Z : Zs} {f : Addr} {fd : FuncData} (T : Txt K mg Z w) (F : Fun K "_law_asked" "_law_asked" s__law_asked f fd) (E_letters_of : FnE P w K mg base 4 "letters_of" ["shape"] (fn_letters_of Z)) : FnG P w K mg base 5 f fd ["_law_thing"] (spD K 1 (fn__law_asked K Z)) := by
  have h := fn_ok (P := P) (w := w) (mg := mg) (base := base) (k := 4) (g := b__law_asked K Z) (fx := [true]) F sc__law_asked rfl (fun cdv A outer s H E gu hr => by
    have tk := takes_of (X := cxOf (L2.CX P w) P w K mg base N__law_asked "_law_asked" (defScope s__law_asked) f cdv A outer s H E) rfl rfl rfl rfl
    exact ⟨_, (pss_cons (ps_set (i := 1) sc__law_asked.nd rfl (Or.inl rfl) pe_non)
    (pss_cons (ps_set (i := 2) sc__law_asked.nd rfl (Or.inl rfl) pe_non)
    (pss_cons (ps_keep (i := 3) rfl rfl rfl sc__law_asked.nd rfl rfl ⟨rfl, by decide, Or.inl T.c_SayError⟩ (fun U pn xe tkb ph => (pss_one (ps_set (i := 1) sc__law_asked.nd rfl (Or.inl rfl) (pe_fnE (E := WE _) E_letters_of (Room.mono hr (by omega)) gu (by rfl) (fun σ => passAt tkb σ) (pa_cons (pv 0) pa_nil))))) (fun a oe cls d pn hz hf => pss_one (ps_set (i := 2) sc__law_asked.nd rfl (Or.inl rfl) (pv 3))))
    (pss_one (ps_ret (pe_lst (pa_cons (pv 1) (pa_cons (pv 2) pa_nil)))))))), (ds_seq (ds_asg (dx_of (de_c fun _ => .non)) (dg_name (by rfl)))
    (ds_seq (ds_asg (dx_of (de_c fun _ => .non)) (dg_name (by rfl)))
    (ds_seq (ds_keep (i := 3) (j := 2) (by rfl) (by rfl) fun U => (ds_asg (dx_ucall E_letters_of.len (da_cons de_var da_nil)) (dg_name (by rfl))))
    (ds_ret (dx_of (de_lstO (md_cons (dm_of de_move) (md_cons (dm_of de_move) md_nil))))))))⟩)
  exact h

end K1

set_option Elab.async false
set_option linter.all false
set_option maxRecDepth 100000
set_option maxHeartbeats 4000000
namespace K1
open PySem PySem.Spec PyProof.Rows L2 Q
theorem ok__law_good {P : Program} {w : World} {K : PySem.W.Frag} {mg : Str → Option Value} {base : Heap} {Z : Zs} {f : Addr} {fd : FuncData} (T : Txt K mg Z w) (F : Fun K "_law_good" "_law_good" s__law_good f fd) (E_is_shape : FnE P w K mg base 2 "is_shape" ["thing"] fn_is_shape) (E_letters_of : FnE P w K mg base 4 "letters_of" ["shape"] (fn_letters_of Z)) (E__law_whole : FnE P w K mg base 1 "_law_whole" ["_law_thing"] fn__law_whole) (E__law_only : FnE P w K mg base 1 "_law_only" ["_law_error", "_law_name"] (fn__law_only K Z)) (E__law_letters : FnE P w K mg base 1 "_law_letters" ["_law_shape"] fn__law_letters) (E__law_is_shape : FnE P w K mg base 2 "_law_is_shape" ["_law_thing"] fn__law_is_shape) (E__law_asked : FnE P w K mg base 5 "_law_asked" ["_law_thing"] (fn__law_asked K Z)) : FnG P w K mg base 6 f fd ["_law_thing"] (spD K 1 (fn__law_good K Z)) := by
  have h := fn_ok (P := P) (w := w) (mg := mg) (base := base) (k := 5) (g := b__law_good K Z) (fx := [true]) F sc__law_good rfl (fun cdv A outer s H E gu hr => by
    have tk := takes_of (X := cxOf (L2.CX P w) P w K mg base N__law_good "_law_good" (defScope s__law_good) f cdv A outer s H E) rfl rfl rfl rfl
    exact ⟨_, (pss_cons (ps_set (i := 1) sc__law_good.nd rfl (Or.inl rfl) (pe_callB (call_rep gu hr) (by rfl) T.b_repr (by decide +kernel) (pa_cons (pv 0) pa_nil)))
    (pss_cons (ps_set (i := 2) sc__law_good.nd rfl (Or.inl rfl) (pe_fnE E_is_shape (Room.mono hr (by omega)) gu (by rfl) (fun σ => passNo σ) (pa_cons (pv 0) pa_nil)))
    (pss_cons (ps_asg (pe_fnE E__law_asked (Room.mono hr (by omega)) gu (by rfl) (fun σ => passNo σ) (pa_cons (pv 0) pa_nil)) (pg_lst rfl (pgs_cons (pg_name (i := 3) sc__law_good.nd rfl (Or.inl rfl)) (pgs_cons (pg_name (i := 4) sc__law_good.nd rfl (Or.inl rfl)) pgs_nil))))
    (pss_cons (ps_if (PW.pt (pw_or (pt_not (pt_val (pe_callB call_isi (by rfl) T.b_isinstance (by decide +kernel) (pa_cons (pv 2) (pa_cons (pe_bltn (v := .ty "bool") (by rfl) T.b_bool (by decide +kernel) rfl) pa_nil))))) (pw_or (pt_cmpR (op_neD hr.units) (pv 2) (pe_fnE E__law_is_shape (Room.mono hr (by omega)) gu (by rfl) (fun σ => passNo σ) (pa_cons (pv 0) pa_nil)) (nomark _)) (pw_or1 (pt_cmpR (op_neD hr.units) (pe_callB (call_rep gu hr) (by rfl) T.b_repr (by decide +kernel) (pa_cons (pv 0) pa_nil)) (pv 1) (nomark _)))))) (pss_one (ps_ret pe_bl)) pss_nil)
    (pss_cons (ps_if (pt_not (pt_truth (pv 2) (by intro _; rfl))) (pss_one (ps_ret (pe_and (pe_cmpR op_isN (pv 3) pe_non (nomark _)) (pe_one (pe_fnE E__law_only (Room.mono hr (by omega)) gu (by rfl) (fun σ => passNo σ) (pa_cons (pv 4) (pa_cons pe_str pa_nil))))))) pss_nil)
    (pss_cons (ps_if (PW.pt (pw_or (pt_cmpR op_notN (pv 4) pe_non (nomark _)) (pw_or (pt_not (pt_val (pe_callB call_isi (by rfl) T.b_isinstance (by decide +kernel) (pa_cons (pv 3) (pa_cons (pe_bltn (v := .ty "list") (by rfl) T.b_list (by decide +kernel) rfl) pa_nil))))) (pw_or1 (pt_cmpR (op_neD hr.units) (pv 3) (pe_fnE E__law_letters (Room.mono hr (by omega)) gu (by rfl) (fun σ => passNo σ) (pa_cons (pv 0) pa_nil)) (nomark _)))))) (pss_one (ps_ret pe_bl)) pss_nil)
    (pss_cons (ps_if (pt_not (pt_val (pe_callB (cr_all rfl) (by rfl) T.b_all (by decide +kernel) (pa_cons (pe_lc (own := [("_law_letter", 5)]) rfl sc__law_good.nd (pi_list (pv 3)) (blkOk_by (N := N__law_good) (sc := defScope s__law_good) (by decide +kernel)) (fun _ _ _ _ _ => (pg_name (i := 5) sc__law_good.nd rfl (Or.inl rfl))) (fun _ _ _ _ _ => pts_nil) (fun _ _ _ _ _ => (pe_and (pe_callB call_isi (by rfl) T.b_isinstance (by decide +kernel) (pa_cons (pv 5) (pa_cons (pe_bltn (v := .ty "tuple") (by rfl) T.b_tuple (by decide +kernel) rfl) pa_nil))) (pe_one (pe_callB (cr_all rfl) (by rfl) T.b_all (by decide +kernel) (pa_cons (pe_lc (own := [("_law_value", 6)]) rfl sc__law_good.nd (pi_tup (pv 5)) (blkOk_by (by exact rfl)) (fun _ _ _ _ _ => (pg_name (i := 6) sc__law_good.nd rfl (Or.inl rfl))) (fun _ _ _ _ _ => pts_nil) (fun _ _ _ _ _ => (pe_fnE E__law_whole (Room.mono hr (by omega)) gu (by rfl) (fun σ => passNo σ) (pa_cons (pv 6) pa_nil)))) pa_nil)))))) pa_nil)))) (pss_one (ps_ret pe_bl)) pss_nil)
    (pss_cons (ps_expr (pe_bm0 PySem.F.plainAttrs_list PySem.F.slot_list_clear PySem.F.type_list_clear mt_clear (pv 3)))
    (pss_one (ps_ret (pe_and (pe_cmpR (op_eqD hr.units) (pe_fnE E_letters_of (Room.mono hr (by omega)) gu (by rfl) (fun σ => passNo σ) (pa_cons (pe_tup (pa_cons pe_int pa_nil)) pa_nil)) (pe_lst (pa_cons (pe_tup (pa_cons pe_int pa_nil)) (pa_cons (pe_tup (pa_cons pe_int pa_nil)) pa_nil))) (nomark _)) (pe_one (pe_cmpR (op_eqD hr.units) (pe_fnE E_letters_of (Room.mono hr (by omega)) gu (by rfl) (fun σ => passNo σ) (pa_cons (pv 0) pa_nil)) (pe_fnE E__law_letters (Room.mono hr (by omega)) gu (by rfl) (fun σ => passNo σ) (pa_cons (pv 0) pa_nil)) (nomark _)))))))))))))), (ds_seq (ds_asg (dx_of (de_with (fd_cons (df_of de_var) fd_nil) dc_rep)) (dg_name (by rfl)))
    (ds_seq (ds_asg (dx_of (de_fn E_is_shape.len (da_cons de_var da_nil))) (dg_name (by rfl)))
    (ds_seq (ds_asg (dx_of (de_fn E__law_asked.len (da_cons de_var da_nil))) (dg_lst (dgs_cons (dg_name (by rfl)) (dgs_cons (dg_name (by rfl)) dgs_nil))))
    (ds_seq (ds_if (dtx_of (dt_or (dt_not (dt_bl (df_of (de_isi (c := .bool) (df_of de_var))))) (dt_or (dt_test (df_of (de_op (df_of de_var) (df_of (de_fn E__law_is_shape.len (da_cons de_var da_nil))) dc_ne))) (dt_test (df_of (de_op (df_of (de_with (fd_cons (df_of de_var) fd_nil) dc_rep)) (df_of de_var) dc_ne)))))) (ds_ret (dx_of (de_c fun _ => .bl false))) ds_next)
    (ds_seq (ds_if (dtx_of (dt_not (dt_tru (df_of de_var)))) (ds_ret (dx_of (de_andV (df_of (de_op (df_of de_var) (df_of (de_c fun _ => .non)) dc_isN)) (df_of (de_fn E__law_only.len (da_cons de_var (da_cons (de_c fun _ => .str "NoShape") da_nil))))))) ds_next)
    (ds_seq (ds_if (dtx_of (dt_scal (dt_or (dt_test (df_of (de_op (df_of de_var) (df_of (de_c fun _ => .non)) dc_notN))) (dt_or (dt_not (dt_bl (df_of (de_of (df_scal (df_of (de_isi (c := .list) (df_of de_var)))))))) (dt_test (df_of (de_op (df_of de_var) (df_of (de_fn E__law_letters.len (da_cons de_var da_nil))) dc_ne))))))) (ds_ret (dx_of (de_c fun _ => .bl false))) ds_next)
    (ds_seq (ds_if (dtx_of (dt_scal (dt_not (dt_bl (df_of (de_with (fd_cons (df_of (de_comp (di_list (df_of de_var)) (dg_name (by rfl)) dt_yes (dm_of (de_andV (df_of (de_isi (c := .tuple) (df_of de_var))) (df_of (de_with (fd_cons (df_of (de_comp (di_tup (df_of de_var)) (dg_name (by rfl)) dt_yes (dm_of (de_fn E__law_whole.len (da_cons de_var da_nil))))) fd_nil) dc_all)))))) fd_nil) dc_all)))))) (ds_ret (dx_of (de_c fun _ => .bl false))) ds_next)
    (ds_seq (ds_drop (dx_of de_clear))
    (ds_ret (dx_of (de_andV (df_of (de_op (df_of (de_fn E_letters_of.len (da_cons (de_tup (fd_cons (df_of (de_c fun _ => .int 2)) fd_nil)) da_nil))) (df_of (de_lst (fd_cons (df_of (de_tup (fd_cons (df_of (de_c fun _ => .int 0)) fd_nil))) (fd_cons (df_of (de_tup (fd_cons (df_of (de_c fun _ => .int 1)) fd_nil))) fd_nil)))) dc_eq)) (df_of (de_op (df_of (de_fn E_letters_of.len (da_cons de_var da_nil))) (df_of (de_fn E__law_letters.len (da_cons de_var da_nil))) dc_eq)))))))))))))⟩)
  exact h

end K1

set_option Elab.async false
set_option linter.all false
set_option maxRecDepth 100000
set_option maxHeartbeats 4000000
namespace K1
open PySem PySem.Spec PyProof.Rows L2 Q
theorem ok_law {P : Program} {w : World} {K : PySem.W.Frag} {mg : Str → Option Value} {base : Heap} {Z : Zs} {f : Addr} {fd : FuncData} (T : Txt K mg Z w) (F : Fun K "law" "law" s_law f fd) (E__law_cell : FnE P w K mg base 2 "_law_cell" ["_law_script", "_law_k"] fn__law_cell) (E__law_take : FnE P w K mg base 1 "_law_take" ["_law_pile", "_law_size"] fn__law_take) (E__law_good : FnE P w K mg base 6 "_law_good" ["_law_thing"] (fn__law_good K Z)) : FnG P w K mg base 7 f fd ["_law_script"] (spD K 1 (fn_law K Z)) := by
  have h := fn_ok (P := P) (w := w) (mg := mg) (base := base) (k := 6) (g := b_law K Z) (fx := [true]) F sc_law rfl (fun cdv A outer s H E gu hr => by
    have tk := takes_of (X := cxOf (L2.CX P w) P w K mg base N_law "law" (defScope s_law) f cdv A outer s H E) rfl rfl rfl rfl
    exact ⟨_, (pss_cons (ps_set (i := 1) sc_law.nd rfl (Or.inl rfl) (pe_lst (pa_cons pe_non (pa_cons pe_bl (pa_cons pe_int (pa_cons pe_str (pa_cons pe_str (pa_cons (pe_tup pa_nil) (pa_cons (pe_lst pa_nil) (pa_cons (pe_lst (pa_cons pe_int pa_nil)) (pa_cons (pe_tup (pa_cons pe_int (pa_cons pe_int (pa_cons pe_int pa_nil)))) (pa_cons (pe_tup (pa_cons pe_int (pa_cons pe_int (pa_cons pe_int pa_nil)))) (pa_cons (pe_tup (pa_cons pe_int (pa_cons pe_int (pa_cons pe_int pa_nil)))) (pa_cons (pe_tup (pa_cons pe_int (pa_cons pe_int (pa_cons pe_int pa_nil)))) (pa_cons (pe_tup (pa_cons pe_int (pa_cons pe_int (pa_cons pe_int pa_nil)))) pa_nil)))))))))))))))
    (pss_cons (ps_set (i := 1) sc_law.nd rfl (Or.inl rfl) (pe_op op_cat (pv 1) (pe_lst (pa_cons (pe_tup (pa_cons pe_int (pa_cons pe_int (pa_cons pe_int pa_nil)))) (pa_cons (pe_tup (pa_cons (pe_tup (pa_cons pe_int pa_nil)) pa_nil)) pa_nil)))))
    (pss_cons (ps_set (i := 1) sc_law.nd rfl (Or.inl rfl) (pe_op op_cat (pv 1) (pe_lst (pa_cons (pe_tup (pa_cons pe_int (pa_cons pe_bl pa_nil))) (pa_cons (pe_tup (pa_cons pe_int pa_nil)) (pa_cons (pe_tup (pa_cons pe_bl pa_nil)) (pa_cons (pe_tup (pa_cons pe_bl pa_nil)) (pa_cons (pe_tup (pa_cons (pe_op op_pow pe_int pe_int) pa_nil)) (pa_cons (pe_tup (pa_cons pe_int (pa_cons pe_int (pa_cons pe_int (pa_cons pe_int pa_nil))))) (pa_cons (pe_tup (pa_cons pe_int pa_nil)) (pa_cons (pe_tup (pa_cons pe_int (pa_cons pe_int pa_nil))) (pa_cons (pe_tup (pa_cons pe_int (pa_cons pe_int pa_nil))) (pa_cons (pe_tup (pa_cons pe_int (pa_cons (pe_op op_sub pe_int pe_int) pa_nil))) pa_nil)))))))))))))
    (pss_cons (ps_for (passes_of rfl) rfl (pi_range1 (by rfl) T.b_range (pa_cons pe_int pa_nil)) (pg_name (i := 2) sc_law.nd rfl (Or.inl rfl)) (pss_cons (ps_set (i := 3) sc_law.nd rfl (Or.inr rfl) (pe_lst (pa_cons (pe_fnE E__law_cell (Room.mono hr (by omega)) gu (by rfl) (fun σ => passNo σ) (pa_cons (pv 0) (pa_cons (pv 2) pa_nil))) pa_nil)))
    (pss_cons (ps_set (i := 4) sc_law.nd rfl (Or.inl rfl) (pe_callTy call_tuple_of (by rfl) T.b_tuple (by decide +kernel) (pa_cons (pe_lc (own := [("_law_place", 8)]) rfl sc_law.nd (pi_range1 (by rfl) T.b_range (pa_cons (pe_fnE E__law_take (Room.mono hr (by omega)) gu (by rfl) (fun σ => passNo σ) (pa_cons (pv 3) (pa_cons pe_int pa_nil))) pa_nil)) (blkOk_by (N := N_law) (sc := defScope s_law) (by decide +kernel)) (fun _ _ _ _ _ => (pg_name (i := 8) sc_law.nd rfl (Or.inl rfl))) (fun _ _ _ _ _ => pts_nil) (fun _ _ _ _ _ => (pe_op op_sub (pe_fnE E__law_take (Room.mono hr (by omega)) gu (by rfl) (fun σ => passNo σ) (pa_cons (pv 3) (pa_cons pe_int pa_nil))) pe_int))) pa_nil)))
    (pss_cons (ps_set (i := 5) sc_law.nd rfl (Or.inl rfl) (pe_fnE E__law_take (Room.mono hr (by omega)) gu (by rfl) (fun σ => passNo σ) (pa_cons (pv 3) (pa_cons (pe_callB (call_max2 rfl) (by rfl) T.b_max (by decide +kernel) (pa_cons (pe_callB call_len (by rfl) T.b_len (by decide +kernel) (pa_cons (pv 4) pa_nil)) (pa_cons pe_int pa_nil))) pa_nil))))
    (pss_cons (ps_set (i := 6) sc_law.nd rfl (Or.inl rfl) (pe_ix ix_seq (pe_lst (pa_cons pe_non (pa_cons pe_str (pa_cons pe_bl (pa_cons (pe_lst (pa_cons pe_int pa_nil)) (pa_cons (pe_tup (pa_cons pe_int pa_nil)) (pa_cons (pe_op op_add (pe_op op_pow pe_int pe_int) (pe_fnE E__law_take (Room.mono hr (by omega)) gu (by rfl) (fun σ => passNo σ) (pa_cons (pv 3) (pa_cons pe_int pa_nil)))) (pa_cons (pe_op op_pow pe_int pe_int) pa_nil)))))))) (pe_fnE E__law_take (Room.mono hr (by omega)) gu (by rfl) (fun σ => passNo σ) (pa_cons (pv 3) (pa_cons pe_int pa_nil))) (fun _ _ => rfl)))
    (pss_cons (ps_set (i := 1) sc_law.nd rfl (Or.inl rfl) (pe_op op_cat (pv 1) (pe_lst (pa_cons (pv 4) (pa_cons (pe_callTy call_list_of (by rfl) T.b_list (by decide +kernel) (pa_cons (pv 4) pa_nil)) (pa_cons (pe_op op_catA (pe_op op_catA (pe_slice sl_tupA (pv 4) po_none (po_some (pv 5))) (pe_tup (pa_cons (pv 6) pa_nil))) (pe_slice sl_tupA (pv 4) (po_some (pe_op op_add (pv 5) pe_int)) po_none)) pa_nil))))))
    (pss_one (ps_expr (pe_bm PySem.F.plainAttrs_list PySem.F.slot_list_append PySem.F.type_list_append mt_append (pv 1) (pa_cons (pe_callTy call_tuple_of (by rfl) T.b_tuple (by decide +kernel) (pa_cons (pe_lc (own := [("_law_place", 8)]) rfl sc_law.nd (pi_range1 (by rfl) T.b_range (pa_cons (pe_op op_add pe_int (pe_fnE E__law_take (Room.mono hr (by omega)) gu (by rfl) (fun σ => passNo σ) (pa_cons (pv 3) (pa_cons pe_int pa_nil)))) pa_nil)) (blkOk_by (N := N_law) (sc := defScope s_law) (by decide +kernel)) (fun _ _ _ _ _ => (pg_name (i := 8) sc_law.nd rfl (Or.inl rfl))) (fun _ _ _ _ _ => pts_nil) (fun _ _ _ _ _ => (pe_op op_add pe_int (pe_fnE E__law_take (Room.mono hr (by omega)) gu (by rfl) (fun σ => passNo σ) (pa_cons (pv 3) (pa_cons pe_int pa_nil)))))) pa_nil)) pa_nil))))))))))
    (pss_one (ps_ret (pe_callB (cr_all rfl) (by rfl) T.b_all (by decide +kernel) (pa_cons (pe_lc (own := [("_law_thing", 7)]) rfl sc_law.nd (pi_list (pv 1)) (blkOk_by (N := N_law) (sc := defScope s_law) (by decide +kernel)) (fun _ _ _ _ _ => (pg_name (i := 7) sc_law.nd rfl (Or.inl rfl))) (fun _ _ _ _ _ => pts_nil) (fun _ _ _ _ _ => (pe_fnE E__law_good (Room.mono hr (by omega)) gu (by rfl) (fun σ => passNo σ) (pa_cons (pv 7) pa_nil)))) pa_nil)))))))), (ds_seq (ds_asg (dx_of (de_lst (fd_cons (df_of (de_c fun _ => .non)) (fd_cons (df_of (de_c fun _ => .bl true)) (fd_cons (df_of (de_c fun _ => .int 0)) (fd_cons (df_of (de_c fun _ => .str "")) (fd_cons (df_of (de_c fun _ => .str "22")) (fd_cons (df_of (de_tup fd_nil)) (fd_cons (df_of (de_lst fd_nil)) (fd_cons (df_of (de_lst (fd_cons (df_of (de_c fun _ => .int 2)) fd_nil))) (fd_cons (df_of (de_tup (fd_cons (df_of (de_c fun _ => .int 3)) (fd_cons (df_of (de_c fun _ => .int 3)) (fd_cons (df_of (de_c fun _ => .int 3)) fd_nil))))) (fd_cons (df_of (de_tup (fd_cons (df_of (de_c fun _ => .int 4)) (fd_cons (df_of (de_c fun _ => .int 4)) (fd_cons (df_of (de_c fun _ => .int 1)) fd_nil))))) (fd_cons (df_of (de_tup (fd_cons (df_of (de_c fun _ => .int 4)) (fd_cons (df_of (de_c fun _ => .int 4)) (fd_cons (df_of (de_c fun _ => .int 2)) fd_nil))))) (fd_cons (df_of (de_tup (fd_cons (df_of (de_c fun _ => .int 4)) (fd_cons (df_of (de_c fun _ => .int 3)) (fd_cons (df_of (de_c fun _ => .int 2)) fd_nil))))) (fd_cons (df_of (de_tup (fd_cons (df_of (de_c fun _ => .int 4)) (fd_cons (df_of (de_c fun _ => .int 3)) (fd_cons (df_of (de_c fun _ => .int 3)) fd_nil))))) fd_nil))))))))))))))) (dg_name (by rfl)))
    (ds_seq (ds_asg (dx_of (de_op (df_of de_var) (df_of (de_lst (fd_cons (df_of (de_tup (fd_cons (df_of (de_c fun _ => .int 3)) (fd_cons (df_of (de_c fun _ => .int 3)) (fd_cons (df_of (de_c fun _ => .int 4)) fd_nil))))) (fd_cons (df_of (de_tup (fd_cons (df_of (de_tup (fd_cons (df_of (de_c fun _ => .int 2)) fd_nil))) fd_nil))) fd_nil)))) dc_catL)) (dg_name (by rfl)))
    (ds_seq (ds_asg (dx_of (de_op (df_of de_var) (df_of (de_lst (fd_cons (df_of (de_tup (fd_cons (df_of (de_c fun _ => .int 2)) (fd_cons (df_of (de_c fun _ => .bl true)) fd_nil)))) (fd_cons (df_of (de_tup (fd_cons (df_of (de_c fun _ => .int 1)) fd_nil))) (fd_cons (df_of (de_tup (fd_cons (df_of (de_c fun _ => .bl true)) fd_nil))) (fd_cons (df_of (de_tup (fd_cons (df_of (de_c fun _ => .bl false)) fd_nil))) (fd_cons (df_of (de_tup (fd_cons (df_of (de_op (df_of (de_c fun _ => .int 10)) (df_of (de_c fun _ => .int 29)) dc_pow)) fd_nil))) (fd_cons (df_of (de_tup (fd_cons (df_of (de_c fun _ => .int 2)) (fd_cons (df_of (de_c fun _ => .int 2)) (fd_cons (df_of (de_c fun _ => .int 2)) (fd_cons (df_of (de_c fun _ => .int 1)) fd_nil)))))) (fd_cons (df_of (de_tup (fd_cons (df_of (de_c fun _ => .int 27)) fd_nil))) (fd_cons (df_of (de_tup (fd_cons (df_of (de_c fun _ => .int 5)) (fd_cons (df_of (de_c fun _ => .int 5)) fd_nil)))) (fd_cons (df_of (de_tup (fd_cons (df_of (de_c fun _ => .int 2)) (fd_cons (df_of (de_c fun _ => .int 0)) fd_nil)))) (fd_cons (df_of (de_tup (fd_cons (df_of (de_c fun _ => .int 4)) (fd_cons (df_of (de_op (df_of (de_c fun _ => .int 0)) (df_of (de_c fun _ => .int 4)) dc_sub)) fd_nil)))) fd_nil)))))))))))) dc_catL)) (dg_name (by rfl)))
    (ds_seq (ds_for (di_range1 (fd_cons (df_of (de_c fun _ => .int 12)) fd_nil)) (dg_name (by rfl)) (ds_seq (ds_asg (dx_of (de_lst (fd_cons (df_of (de_fn E__law_cell.len (da_cons de_var (da_cons de_var da_nil)))) fd_nil))) (dg_name (by rfl)))
    (ds_seq (ds_asg (dx_of (de_with (fd_cons (df_of (de_comp (di_range1 (fd_cons (df_of (de_fn E__law_take.len (da_cons de_var (da_cons (de_c fun _ => .int 5) da_nil)))) fd_nil)) (dg_name (by rfl)) dt_yes (dm_of (de_op (df_of (de_fn E__law_take.len (da_cons de_var (da_cons (de_c fun _ => .int 7) da_nil)))) (df_of (de_c fun _ => .int 1)) dc_sub)))) fd_nil) dc_tuple)) (dg_name (by rfl)))
    (ds_seq (ds_asg (dx_of (de_fn E__law_take.len (da_cons de_var (da_cons (de_with (fd_cons (df_of (de_with (fd_cons (df_of de_var) fd_nil) dc_len)) (fd_cons (df_of (de_c fun _ => .int 1)) fd_nil)) dc_max2) da_nil)))) (dg_name (by rfl)))
    (ds_seq (ds_asg (dx_of (de_op (df_of (de_lst (fd_cons (df_of (de_c fun _ => .non)) (fd_cons (df_of (de_c fun _ => .str "2")) (fd_cons (df_of (de_c fun _ => .bl true)) (fd_cons (df_of (de_lst (fd_cons (df_of (de_c fun _ => .int 2)) fd_nil))) (fd_cons (df_of (de_tup (fd_cons (df_of (de_c fun _ => .int 2)) fd_nil))) (fd_cons (df_of (de_op (df_of (de_op (df_of (de_c fun _ => .int 10)) (df_of (de_c fun _ => .int 28)) dc_pow)) (df_of (de_fn E__law_take.len (da_cons de_var (da_cons (de_c fun _ => .int 9) da_nil)))) dc_add)) (fd_cons (df_of (de_op (df_of (de_c fun _ => .int 10)) (df_of (de_c fun _ => .int 21)) dc_pow)) fd_nil))))))))) (df_of (de_fn E__law_take.len (da_cons de_var (da_cons (de_c fun _ => .int 7) da_nil)))) dc_ix)) (dg_name (by rfl)))
    (ds_seq (ds_asg (dx_of (de_op (df_of de_var) (df_of (de_lst (fd_cons (df_of de_var) (fd_cons (df_of (de_with (fd_cons (df_of de_var) fd_nil) dc_list)) (fd_cons (df_of (de_op (df_of (de_op (df_of (de_sl dsl_tup (df_of de_var) dp_no (dp_at (df_of de_var)))) (df_of (de_tup (fd_cons (df_of de_var) fd_nil))) dc_catT)) (df_of (de_sl dsl_tup (df_of de_var) (dp_at (df_of (de_op (df_of de_var) (df_of (de_c fun _ => .int 1)) dc_add))) dp_no)) dc_catT)) fd_nil))))) dc_catL)) (dg_name (by rfl)))
    (ds_drop (dx_of (de_append (dm_of (de_with (fd_cons (df_of (de_comp (di_range1 (fd_cons (df_of (de_op (df_of (de_c fun _ => .int 1)) (df_of (de_fn E__law_take.len (da_cons de_var (da_cons (de_c fun _ => .int 3) da_nil)))) dc_add)) fd_nil)) (dg_name (by rfl)) dt_yes (dm_of (de_op (df_of (de_c fun _ => .int 1)) (df_of (de_fn E__law_take.len (da_cons de_var (da_cons (de_c fun _ => .int 4) da_nil)))) dc_add)))) fd_nil) dc_tuple)))))))))))
    (ds_ret (dx_of (de_with (fd_cons (df_of (de_comp (di_list (df_of de_var)) (dg_name (by rfl)) dt_yes (dm_of (de_fn E__law_good.len (da_cons de_var da_nil))))) fd_nil) dc_all)))))))⟩)
  exact h
end K1

set_option Elab.async false
set_option linter.all false
set_option maxRecDepth 100000
set_option maxHeartbeats 1000000
namespace K1
open PySem PySem.Spec PyProof.Rows L2 Q
def isNum : D → Bool
  | .int _ => true
  | _ => false
def plain : D → Bool
  | .non => true
  | .bl _ => true
  | .int _ => true
  | .str _ => true
  | .tup _ => true
  | .lst _ => true
  | _ => false
theorem v_is_number {d : D} (h : plain d = true) : fn_is_number [.fz d] = some (.ret (.fz (.bl (isNum d))), [.fz d]) := by
  cases d <;> first | (cases h; done) | rfl
theorem v__law_whole {d : D} (h : plain d = true) : fn__law_whole [.fz d] = some (.ret (.fz (.bl (isNum d))), [.fz d]) := by
  cases d <;> first | (cases h; done) | rfl
def inF : D → Bool
  | .int i => decide (1 ≤ i) && decide (i ≤ 4)
  | _ => false
def valI : D → Int
  | .int i => i
  | _ => 0
def prodD : Int → List D → Option Int
  | m, [] => some m
  | m, d :: l => if inF d = true then prodD (m * valI d) l else none
def isSh : D → Bool
  | .tup l => decide (1 ≤ l.length) && decide (l.length ≤ 3) && (match prodD 1 l with
    | some m => decide (m ≤ 27)
    | none => false)
  | _ => false
def oneTurn (t : D) (m : Int) (d : D) : Option O := if inF d = true then some (.nx [.fz t, .fz (.int (m * valI d)), .fz d]) else some (.rt (.sh (.bl false)) [.fz t, .fz (.int m), .fz d])
theorem inF_int {d : D} (h : inF d = true) : ∃ i, d = .int i ∧ 1 ≤ i ∧ i ≤ 4 := by
  cases d with
  | int i => simp [inF] at h; exact ⟨i, rfl, h.1, h.2⟩
  | _ => cases h
theorem loop_sh {body : SD} (hb : ∀ (t : D) (m : Int) (d : D), plain d = true → body [.fz t, .fz (.int m), .fz d] = oneTurn t m d) : ∀ (l : List D) (t : D) (m : Int) (x : T), l.all plain = true →
    ∃ y z, loopD (gdName 2) body l [.fz t, .fz (.int m), x] = some (match prodD m l with
      | some k => .nx [.fz t, .fz (.int k), y]
      | none => .rt (.sh (.bl false)) [.fz t, z, y]) := by
  intro l
  induction l with
  | nil => intro t m x _; exact ⟨x, x, rfl⟩
  | cons d l ih =>
    intro t m x hp
    simp only [List.all_cons, Bool.and_eq_true] at hp
    have e : loopD (gdName 2) body (d :: l) [.fz t, .fz (.int m), x] = (oneTurn t m d).bind fun o => match o with
        | .nx r2 => loopD (gdName 2) body l r2
        | .ct r2 => loopD (gdName 2) body l r2
        | .bk r2 => some (.nx r2)
        | .rt w r2 => some (.rt w r2)
        | .ex c r2 => some (.ex c r2) := by
      rw [← hb t m d hp.1]
      rfl
    rw [e]
    unfold oneTurn
    cases c : inF d with
    | true =>
      obtain ⟨y, z, h⟩ := ih t (m * valI d) (.fz d) hp.2
      refine ⟨y, z, ?_⟩
      simp only [if_true, Option.bind_some, prodD, c]
      exact h
    | false =>
      refine ⟨.fz d, .fz (.int m), ?_⟩
      simp [prodD, c]
def elsPlain : D → Bool
  | .tup l => l.all plain
  | _ => true
theorem v_is_shape {d : D} (h : plain d = true) (h2 : elsPlain d = true) : fn_is_shape [.fz d] = some (.ret (.fz (.bl (isSh d))), [.fz d]) := by
  cases d with
  | tup l =>
    have hb : ∀ (t : D) (m : Int) (d : D), plain d = true → (dSeq (dIf (xbLift (dOr (dNot (dBl (dSh (dCall fn_is_number (daCons (dVar 2) daNil))))) (dNot (dBl (dSh (dChain gLe gLe (dSh (dC (.int 1))) (dSh (dVar 2)) (dSh (dC (.int 4))))))))) (dRet (xLift (dC (.bl false)))) dNext) (dAug 1 gMul1 (dSh (dVar 2)))) [.fz t, .fz (.int m), .fz d] = oneTurn t m d := by
      intro t m d hp
      have e : dCall fn_is_number (daCons (dVar 2) daNil) [.fz t, .fz (.int m), .fz d] = some (.sh (.bl (isNum d)), [.fz t, .fz (.int m), .fz d]) := by
        simp [dCall, daCons, daNil, dVar, pars, v_is_number hp, resW, back, putBack]
      cases d with
      | int i =>
        by_cases a : 1 ≤ i
        · by_cases b : i ≤ 4
          · have hc : CMul m i := Or.inr ⟨by omega, by omega⟩
            simp [dSeq, dIf, xbLift, dOr, dNot, dBl, dSh, e, share, D.bool, dChain, dC, dVar, gLe, gRI0, T.data, Rs.w, dNext, dAug, isFz, gMul1, gRI, oneTurn, inF, valI, isNum, a, b, hc]
          · simp [dSeq, dIf, xbLift, dOr, dNot, dBl, dSh, e, share, D.bool, dChain, dC, dVar, gLe, gRI0, T.data, Rs.w, dNext, dAug, isFz, gMul1, gRI, oneTurn, inF, valI, isNum, a, b, dRet, xLift]
        · simp [dSeq, dIf, xbLift, dOr, dNot, dBl, dSh, e, share, D.bool, dChain, dC, dVar, gLe, gRI0, T.data, Rs.w, dNext, dAug, isFz, gMul1, gRI, oneTurn, inF, valI, isNum, a, dRet, xLift]
      | non => simp [dSeq, dIf, xbLift, dOr, dNot, dBl, dSh, e, share, D.bool, isNum, dRet, xLift, dC, oneTurn, inF]
      | bl b => simp [dSeq, dIf, xbLift, dOr, dNot, dBl, dSh, e, share, D.bool, isNum, dRet, xLift, dC, oneTurn, inF]
      | str b => simp [dSeq, dIf, xbLift, dOr, dNot, dBl, dSh, e, share, D.bool, isNum, dRet, xLift, dC, oneTurn, inF]
      | tup b => simp [dSeq, dIf, xbLift, dOr, dNot, dBl, dSh, e, share, D.bool, isNum, dRet, xLift, dC, oneTurn, inF]
      | lst b => simp [dSeq, dIf, xbLift, dOr, dNot, dBl, dSh, e, share, D.bool, isNum, dRet, xLift, dC, oneTurn, inF]
      | _ => cases hp
    obtain ⟨y, z, hlp⟩ := loop_sh hb l (.tup l) 1 .un h2
    by_cases a : 1 ≤ l.length
    · by_cases b : l.length ≤ 3
      · have a' : (1 : Int) ≤ l.length := by omega
        have b' : (l.length : Int) ≤ 3 := by omega
        have st : b_is_shape [.fz (.tup l), .un, .un] = (dSeq (dFor (dItemsT (dSh (dVar 0))) (gdName 2) (dSeq (dIf (xbLift (dOr (dNot (dBl (dSh (dCall fn_is_number (daCons (dVar 2) daNil))))) (dNot (dBl (dSh (dChain gLe gLe (dSh (dC (.int 1))) (dSh (dVar 2)) (dSh (dC (.int 4))))))))) (dRet (xLift (dC (.bl false)))) dNext) (dAug 1 gMul1 (dSh (dVar 2)))))
            (dRet (xLift (dOp gLe (dSh (dVar 1)) (dSh (dC (.int 27))))))) [.fz (.tup l), .fz (.int 1), .un] := by
          unfold b_is_shape
          rw [seq_nx (r1 := [.fz (.tup l), .un, .un]) (by simp [dIf, xbLift, dOr, dNot, dBl, dSh, dIsi, dVar, share, D.isi, D.bool, dChain, dC, gLe, gRI0, T.data, Rs.w, dNext, dWith, fdCons, fdNil, gLen, D.items, a', b'])]
          rw [seq_nx (r1 := [.fz (.tup l), .fz (.int 1), .un]) rfl]
        have lp : ∀ body, (dFor (dItemsT (dSh (dVar 0))) (gdName 2) body) [.fz (.tup l), .fz (.int 1), .un] = loopD (gdName 2) body l [.fz (.tup l), .fz (.int 1), .un] := fun body => rfl
        cases c : prodD 1 l with
        | none =>
          rw [c] at hlp
          have e := (lp _).trans hlp
          refine (fn_rt (by rfl) (st.trans (seq_rt e)) (by simp)).trans ?_
          simp [isSh, a, b, c, outP]
        | some k =>
          rw [c] at hlp
          have e := (lp _).trans hlp
          refine (fn_rt (d := .bl (decide (k ≤ 27))) (r := [.fz (.tup l), .fz (.int k), y]) (by rfl) ((st.trans (seq_nx e)).trans rfl) (by simp)).trans ?_
          simp [isSh, a, b, c, outP]
      · have b' : ¬ (l.length : Int) ≤ 3 := by omega
        have a' : (1 : Int) ≤ l.length := by omega
        refine (fn_rt (d := .bl false) (r := [.fz (.tup l), .un, .un]) (by rfl) ?_ (by simp)).trans ?_
        · unfold b_is_shape
          exact seq_rt (by simp [dIf, xbLift, dOr, dNot, dBl, dSh, dIsi, dVar, share, D.isi, D.bool, dChain, dC, gLe, gRI0, T.data, Rs.w, dNext, dWith, fdCons, fdNil, gLen, D.items, a', b', dRet, xLift])
        · simp [isSh, b, outP]
    · have a' : ¬ (1 : Int) ≤ l.length := by omega
      refine (fn_rt (d := .bl false) (r := [.fz (.tup l), .un, .un]) (by rfl) ?_ (by simp)).trans ?_
      · unfold b_is_shape
        exact seq_rt (by simp [dIf, xbLift, dOr, dNot, dBl, dSh, dIsi, dVar, share, D.isi, D.bool, dChain, dC, gLe, gRI0, T.data, Rs.w, dNext, dWith, fdCons, fdNil, gLen, D.items, a', dRet, xLift])
      · simp [isSh, a, outP]
  | non => rfl
  | bl b => rfl
  | int b => rfl
  | str b => rfl
  | lst b => rfl
  | _ => cases h
end K1

set_option Elab.async false
set_option linter.all false
set_option maxRecDepth 100000
set_option maxHeartbeats 1000000
namespace K1
open PySem PySem.Spec PyProof.Rows L2 Q
theorem loop_sh2 {body : SD} (hb : ∀ (t : D) (m : Int) (d : D), plain d = true → 0 ≤ m → m < 2 ^ 100 → body [.fz t, .fz (.int m), .fz d] = oneTurn t m d) : ∀ (l : List D) (t : D) (m : Int) (x : T), l.all plain = true → 0 ≤ m → m * 4 ^ l.length < 2 ^ 100 →
    ∃ y z, loopD (gdName 2) body l [.fz t, .fz (.int m), x] = some (match prodD m l with
      | some k => .nx [.fz t, .fz (.int k), y]
      | none => .rt (.sh (.bl false)) [.fz t, z, y]) := by
  intro l
  induction l with
  | nil => intro t m x _ _ _; exact ⟨x, x, rfl⟩
  | cons d l ih =>
    intro t m x hp h0 hm
    simp only [List.all_cons, Bool.and_eq_true] at hp
    have p4 : (1 : Int) ≤ 4 ^ l.length := by
      have : (0 : Int) < 4 ^ l.length := Int.pow_pos (by decide)
      omega
    have hm' : m < 2 ^ 100 := by
      rw [List.length_cons, Int.pow_succ] at hm
      have : m * 1 ≤ m * (4 ^ l.length * 4) := Int.mul_le_mul_of_nonneg_left (by omega) h0
      omega
    have e : loopD (gdName 2) body (d :: l) [.fz t, .fz (.int m), x] = (oneTurn t m d).bind fun o => match o with
        | .nx r2 => loopD (gdName 2) body l r2
        | .ct r2 => loopD (gdName 2) body l r2
        | .bk r2 => some (.nx r2)
        | .rt w r2 => some (.rt w r2)
        | .ex c r2 => some (.ex c r2) := by
      rw [← hb t m d hp.1 h0 hm']
      rfl
    rw [e]
    unfold oneTurn
    cases c : inF d with
    | true =>
      obtain ⟨i, rfl, i1, i4⟩ := inF_int c
      obtain ⟨y, z, h⟩ := ih t (m * i) (.fz (.int i)) hp.2 (Int.mul_nonneg h0 (by omega)) (by
        rw [List.length_cons, Int.pow_succ] at hm
        have q1 : m * i ≤ m * 4 := Int.mul_le_mul_of_nonneg_left i4 h0
        have q2 : m * i * 4 ^ l.length ≤ m * 4 * 4 ^ l.length := Int.mul_le_mul_of_nonneg_right q1 (by omega)
        have q3 : m * 4 * 4 ^ l.length = m * (4 ^ l.length * 4) := by rw [Int.mul_assoc, Int.mul_comm 4]
        omega)
      refine ⟨y, z, ?_⟩
      simp only [if_true, Option.bind_some, prodD, c, valI]
      exact h
    | false =>
      refine ⟨.fz d, .fz (.int m), ?_⟩
      simp [prodD, c]
theorem v__law_is_shape {d : D} (h : plain d = true) (h2 : elsPlain d = true) : fn__law_is_shape [.fz d] = some (.ret (.fz (.bl (isSh d))), [.fz d]) := by
  cases d with
  | tup l =>
    have hb : ∀ (t : D) (m : Int) (d : D), plain d = true → 0 ≤ m → m < 2 ^ 100 → (dSeq (dIf (xbLift (dOr (dNot (dBl (dSh (dCall fn__law_whole (daCons (dVar 2) daNil))))) (dOr (dBl (dSh (dOp gLt (dSh (dVar 2)) (dSh (dC (.int 1)))))) (dBl (dSh (dOp gGt (dSh (dVar 2)) (dSh (dC (.int 4))))))))) (dRet (xLift (dC (.bl false)))) dNext) (dAsg (xLift (dOp gMul (dSh (dVar 1)) (dSh (dVar 2)))) (gdName 1))) [.fz t, .fz (.int m), .fz d] = oneTurn t m d := by
      intro t m d hp h0 hm
      have e : dCall fn__law_whole (daCons (dVar 2) daNil) [.fz t, .fz (.int m), .fz d] = some (.sh (.bl (isNum d)), [.fz t, .fz (.int m), .fz d]) := by
        simp [dCall, daCons, daNil, dVar, pars, v__law_whole hp, resW, back, putBack]
      cases d with
      | int i =>
        by_cases a : i < 1
        · have a' : ¬ 1 ≤ i := by omega
          simp [dSeq, dIf, xbLift, dOr, dNot, dBl, dSh, e, share, D.bool, dOp, dWith, fdCons, fdNil, dC, dVar, gLt, gGt, gRI0, T.data, Rs.w, dNext, oneTurn, inF, valI, isNum, a, a', dRet, xLift]
        · by_cases b : 4 < i
          · have b' : ¬ i ≤ 4 := by omega
            simp [dSeq, dIf, xbLift, dOr, dNot, dBl, dSh, e, share, D.bool, dOp, dWith, fdCons, fdNil, dC, dVar, gLt, gGt, gRI0, T.data, Rs.w, dNext, oneTurn, inF, valI, isNum, a, b, b', dRet, xLift]
          · have a' : 1 ≤ i := by omega
            have b' : i ≤ 4 := by omega
            have hc : CMulW m i := mulW_small 101 10 (by omega) (by omega) (by decide) (by decide) (by decide)
            simp [dSeq, dIf, xbLift, dOr, dNot, dBl, dSh, e, share, D.bool, dOp, dWith, fdCons, fdNil, dC, dVar, gLt, gGt, gRI0, gRI, gMul, T.data, Rs.w, dNext, oneTurn, inF, valI, isNum, a, b, a', b', hc, dAsg, xLift, mv, gdName]
      | non => simp [dSeq, dIf, xbLift, dOr, dNot, dBl, dSh, e, share, D.bool, isNum, dRet, xLift, dC, oneTurn, inF]
      | bl b => simp [dSeq, dIf, xbLift, dOr, dNot, dBl, dSh, e, share, D.bool, isNum, dRet, xLift, dC, oneTurn, inF]
      | str b => simp [dSeq, dIf, xbLift, dOr, dNot, dBl, dSh, e, share, D.bool, isNum, dRet, xLift, dC, oneTurn, inF]
      | tup b => simp [dSeq, dIf, xbLift, dOr, dNot, dBl, dSh, e, share, D.bool, isNum, dRet, xLift, dC, oneTurn, inF]
      | lst b => simp [dSeq, dIf, xbLift, dOr, dNot, dBl, dSh, e, share, D.bool, isNum, dRet, xLift, dC, oneTurn, inF]
      | _ => cases hp
    by_cases a : l.length < 1
    · have a' : (l.length : Int) < 1 := by omega
      refine (fn_rt (d := .bl false) (r := [.fz (.tup l), .un, .un]) (by rfl) ?_ (by simp)).trans ?_
      · unfold b__law_is_shape
        exact seq_rt (by simp [dIf, xbLift, dOr, dNot, dBl, dSh, dIsi, dVar, share, D.isi, D.bool, dOp, dC, gLt, gGt, gRI0, T.data, Rs.w, dNext, dWith, fdCons, fdNil, gLen, D.items, a', dRet, xLift])
      · have : ¬ 1 ≤ l.length := by omega
        simp [isSh, this, outP]
    · by_cases b : 3 < l.length
      · have a' : ¬ (l.length : Int) < 1 := by omega
        have b' : (3 : Int) < l.length := by omega
        refine (fn_rt (d := .bl false) (r := [.fz (.tup l), .un, .un]) (by rfl) ?_ (by simp)).trans ?_
        · unfold b__law_is_shape
          exact seq_rt (by simp [dIf, xbLift, dOr, dNot, dBl, dSh, dIsi, dVar, share, D.isi, D.bool, dOp, dC, gLt, gGt, gRI0, T.data, Rs.w, dNext, dWith, fdCons, fdNil, gLen, D.items, a', b', dRet, xLift])
        · have : ¬ l.length ≤ 3 := by omega
          simp [isSh, this, outP]
      · have a' : ¬ (l.length : Int) < 1 := by omega
        have b' : ¬ (3 : Int) < l.length := by omega
        have a2 : 1 ≤ l.length := by omega
        have b2 : l.length ≤ 3 := by omega
        obtain ⟨y, z, hlp⟩ := loop_sh2 hb l (.tup l) 1 .un h2 (by decide) (by
          have : l.length = 1 ∨ l.length = 2 ∨ l.length = 3 := by omega
          rcases this with w | w | w <;> rw [w] <;> decide)
        have st : b__law_is_shape [.fz (.tup l), .un, .un] = (dSeq (dFor (dItemsT (dSh (dVar 0))) (gdName 2) (dSeq (dIf (xbLift (dOr (dNot (dBl (dSh (dCall fn__law_whole (daCons (dVar 2) daNil))))) (dOr (dBl (dSh (dOp gLt (dSh (dVar 2)) (dSh (dC (.int 1)))))) (dBl (dSh (dOp gGt (dSh (dVar 2)) (dSh (dC (.int 4))))))))) (dRet (xLift (dC (.bl false)))) dNext) (dAsg (xLift (dOp gMul (dSh (dVar 1)) (dSh (dVar 2)))) (gdName 1))))
            (dRet (xLift (dOp gLt (dSh (dVar 1)) (dSh (dC (.int 28))))))) [.fz (.tup l), .fz (.int 1), .un] := by
          unfold b__law_is_shape
          rw [seq_nx (r1 := [.fz (.tup l), .un, .un]) (by simp [dIf, xbLift, dOr, dNot, dBl, dSh, dIsi, dVar, share, D.isi, D.bool, dOp, dC, gLt, gGt, gRI0, T.data, Rs.w, dNext, dWith, fdCons, fdNil, gLen, D.items, a', b'])]
          rw [seq_nx (r1 := [.fz (.tup l), .fz (.int 1), .un]) rfl]
        have lp : ∀ body, (dFor (dItemsT (dSh (dVar 0))) (gdName 2) body) [.fz (.tup l), .fz (.int 1), .un] = loopD (gdName 2) body l [.fz (.tup l), .fz (.int 1), .un] := fun body => rfl
        cases c : prodD 1 l with
        | none =>
          rw [c] at hlp
          have e := (lp _).trans hlp
          refine (fn_rt (by rfl) (st.trans (seq_rt e)) (by simp)).trans ?_
          simp [isSh, a2, b2, c, outP]
        | some k =>
          rw [c] at hlp
          have e := (lp _).trans hlp
          refine (fn_rt (d := .bl (decide (k < 28))) (r := [.fz (.tup l), .fz (.int k), y]) (by rfl) ((st.trans (seq_nx e)).trans rfl) (by simp)).trans ?_
          simp [isSh, a2, b2, c, outP]
          omega
  | non => rfl
  | bl b => rfl
  | int b => rfl
  | str b => rfl
  | lst b => rfl
  | _ => cases h
/-! ### letters -/
def stepL (acc : List (List D)) (v : D) : List (List D) := acc.flatMap fun t => (upto 0 (valI v).toNat).map fun i => t ++ [i]
def lets (l : List D) : List (List D) := l.foldl stepL [[]]
theorem prodD_all : ∀ {l : List D} {m k : Int}, prodD m l = some k → ∀ d ∈ l, inF d = true
  | [], _, _, _, d, h => by cases h
  | x :: l, m, k, e, d, h => by
    unfold prodD at e
    split at e
    · rename_i c
      rcases List.mem_cons.mp h with z | z
      · rw [z]; exact c
      · exact prodD_all e d z
    · cases e
theorem upto_len (n : Nat) : (upto 0 n).length = n := by unfold upto; simp
theorem stepL_bound {A : List (List D)} {v : D} {n k : Nat} (hv : inF v = true) (hA : A.length ≤ n) (hk : ∀ t ∈ A, t.length = k) : (stepL A v).length ≤ n * 4 ∧ ∀ t ∈ stepL A v, t.length = k + 1 := by
  obtain ⟨i, rfl, i1, i4⟩ := inF_int hv
  unfold stepL
  constructor
  · have : ∀ (B : List (List D)), (B.flatMap fun t => (upto 0 (valI (.int i)).toNat).map fun i => t ++ [i]).length = B.length * i.toNat := by
      intro B
      induction B with
      | nil => simp
      | cons b B ih => rw [List.flatMap_cons, List.length_append, ih, List.length_map, upto_len, List.length_cons, Nat.succ_mul]; simp [valI]; omega
    rw [this]
    have h1 : i.toNat ≤ 4 := by omega
    exact Nat.le_trans (Nat.mul_le_mul hA h1) (Nat.le_refl _)
  · intro t ht
    obtain ⟨s, hs, ht⟩ := List.mem_flatMap.mp ht
    obtain ⟨j, _, rfl⟩ := List.mem_map.mp ht
    simp [hk s hs]
theorem lets_bound : ∀ (l : List D), (∀ d ∈ l, inF d = true) → (lets l).length ≤ 4 ^ l.length ∧ ∀ t ∈ lets l, t.length = l.length := by
  have key : ∀ (l : List D) (A : List (List D)) (n k : Nat), (∀ d ∈ l, inF d = true) → A.length ≤ n → (∀ t ∈ A, t.length = k) → (l.foldl stepL A).length ≤ n * 4 ^ l.length ∧ ∀ t ∈ l.foldl stepL A, t.length = k + l.length := by
    intro l
    induction l with
    | nil => intro A n k _ h1 h2; simp; exact ⟨h1, h2⟩
    | cons d l ih =>
      intro A n k h h1 h2
      obtain ⟨b1, b2⟩ := stepL_bound (h d List.mem_cons_self) h1 h2
      obtain ⟨c1, c2⟩ := ih (stepL A d) (n * 4) (k + 1) (fun d' hd => h d' (List.mem_cons_of_mem _ hd)) b1 b2
      simp only [List.foldl_cons, List.length_cons]
      refine ⟨?_, fun t ht => by rw [c2 t ht]; omega⟩
      rw [Nat.pow_succ]
      have : n * 4 * 4 ^ l.length = n * (4 ^ l.length * 4) := by rw [Nat.mul_assoc, Nat.mul_comm 4]
      omega
  intro l h
  have := key l [[]] 1 0 h (by simp) (by simp)
  simpa [lets] using this
theorem isSh_tup {d : D} (h : isSh d = true) : ∃ l, d = .tup l ∧ 1 ≤ l.length ∧ l.length ≤ 3 ∧ ∀ x ∈ l, inF x = true := by
  cases d with
  | tup l =>
    simp only [isSh, Bool.and_eq_true, decide_eq_true_eq] at h
    refine ⟨l, rfl, h.1.1, h.1.2, ?_⟩
    cases c : prodD 1 l with
    | none => rw [c] at h; simp at h
    | some k => exact prodD_all c
  | _ => cases h
theorem v_check {Z : Zs} {d : D} (h : plain d = true) (h2 : elsPlain d = true) : fn_check_shape Z [.fz d] = if isSh d = true then some (.ret (.fz .non), [.fz d]) else some (.exc Z.NoShape, [.fz d]) := by
  have e : dCall fn_is_shape (daCons (dVar 0) daNil) [.fz d] = some (.sh (.bl (isSh d)), [.fz d]) := by
    simp [dCall, daCons, daNil, dVar, pars, v_is_shape h h2, resW, back, putBack]
  cases c : isSh d with
  | true =>
    refine (fn_nx (r := [.fz d]) (by rfl) ?_ (by simp)).trans ?_
    · simp [b_check_shape, dIf, xbLift, dNot, dBl, dSh, e, c, share, D.bool, dNext]
    · simp [outP]
  | false =>
    refine (fn_ex (c := Z.NoShape) (r := [.fz d]) (by rfl) ?_ (by simp)).trans ?_
    · simp [b_check_shape, dIf, xbLift, dNot, dBl, dSh, e, c, share, D.bool, dRaise]
    · simp [outP]
end K1

set_option Elab.async false
set_option linter.all false
set_option maxRecDepth 100000
set_option maxHeartbeats 1000000
namespace K1
open PySem PySem.Spec PyProof.Rows L2 Q
def tupsT (A : List (List D)) : List T := (A.map D.tup).map .fz
theorem tupsT_len (A : List (List D)) : (tupsT A).length = A.length := by unfold tupsT; simp
theorem data_tups (A : List (List D)) : T.data (.ls (tupsT A)) = some (.lst (A.map .tup)) := by
  show (dataL ((A.map D.tup).map .fz)).map D.lst = _
  rw [dataL_fz]
  rfl
theorem upto_mem {n : Nat} {d : D} (h : d ∈ upto 0 n) : ∃ i : Int, d = .int i := by
  unfold upto at h
  obtain ⟨i, _, rfl⟩ := List.mem_map.mp h
  exact ⟨_, rfl⟩
def grow (n : Nat) : D → List T
  | .tup t => (upto 0 n).map fun i => .fz (.tup (t ++ [i]))
  | _ => []
theorem grow_all (A : List (List D)) (v : D) : (A.map D.tup).flatMap (grow (valI v).toNat) = tupsT (stepL A v) := by
  unfold stepL
  induction A with
  | nil => rfl
  | cons t A ih =>
    rw [List.map_cons, List.flatMap_cons, List.flatMap_cons, ih]
    simp [grow, tupsT]
theorem lets_small {l pre post : List D} {d : D} (e : l = pre ++ d :: post) (hl : l.length ≤ 3) (h : ∀ x ∈ l, inF x = true) : (lets pre).length ≤ 16 ∧ (∀ t ∈ lets pre, t.length ≤ 2) ∧ inF d = true ∧ (stepL (lets pre) d).length ≤ 64 := by
  have hp : ∀ x ∈ pre, inF x = true := fun x hx => h x (by rw [e]; exact List.mem_append_left _ hx)
  have hd : inF d = true := h d (by rw [e]; exact List.mem_append_right _ List.mem_cons_self)
  obtain ⟨b1, b2⟩ := lets_bound pre hp
  have lp : pre.length ≤ 2 := by rw [e] at hl; simp at hl; omega
  have p16 : 4 ^ pre.length ≤ 16 := by
    have := Nat.pow_le_pow_right (n := 4) (by decide) lp
    simpa using this
  refine ⟨by omega, fun t ht => by rw [b2 t ht]; exact lp, hd, ?_⟩
  have := (stepL_bound hd (Nat.le_trans b1 p16) b2).1
  omega
theorem v_letters_of {Z : Zs} {d : D} (h : plain d = true) (h2 : elsPlain d = true) : fn_letters_of Z [.fz d] = if isSh d = true then some (.ret (.ls (match d with
      | .tup l => tupsT (lets l)
      | _ => [])), [.fz d]) else some (.exc Z.NoShape, [.fz d]) := by
  have e : dCallX (fn_check_shape Z) (daCons (dVar 0) daNil) [.fz d, .un, .un, .un, .un] = if isSh d = true then some (.inl (.sh .non), [.fz d, .un, .un, .un, .un]) else some (.inr Z.NoShape, [.fz d, .un, .un, .un, .un]) := by
    cases c : isSh d <;> simp [dCallX, daCons, daNil, dVar, pars, v_check h h2, c, resW, back, putBack]
  cases c : isSh d with
  | false =>
    rw [c] at e
    refine (fn_ex (c := Z.NoShape) (r := [.fz d, .un, .un, .un, .un]) (by rfl) ?_ (by simp)).trans ?_
    · exact seq_ex (by simp only [dDrop]; simp [e])
    · simp [outP]
  | true =>
    rw [c] at e
    obtain ⟨l, rfl, l1, l3, hin⟩ := isSh_tup c
    have body : ∀ pre v post, l = pre ++ v :: post → ∀ r, (∃ x, r = [.fz (.tup l), .ls (tupsT (pre.foldl stepL [[]])), x, .un, .un]) → ∃ r1 r2, gdName 2 r (.fz v) = some r1 ∧ (dAsg (xLift (dComp2 (dItemsL (dSh (dVar 1))) (gdName 3) dYes (dRange1 (fdCons (dSh (dVar 2)) fdNil)) (gdName 4) dYes (dMv (dOp gCatT (dSh (dVar 3)) (dSh (dWith (fdCons (dSh (dVar 4)) fdNil) gTupD)))) [3, 4] [4])) (gdName 1)) r1 = some (.nx r2) ∧ ∃ x, r2 = [.fz (.tup l), .ls (tupsT (stepL (pre.foldl stepL [[]]) v)), x, .un, .un] := by
      rintro pre v post el r ⟨x, rfl⟩
      obtain ⟨q1, q2, q3, q4⟩ := lets_small el l3 hin
      change (lets pre).length ≤ 16 at q1
      obtain ⟨i, rfl, i1, i4⟩ := inF_int q3
      generalize hA : pre.foldl stepL [[]] = A
      have hA' : lets pre = A := hA
      rw [hA'] at q1 q2 q4
      refine ⟨[.fz (.tup l), .ls (tupsT A), .fz (.int i), .un, .un], [.fz (.tup l), .ls (tupsT (stepL A (.int i))), .fz (.int i), .un, .un], rfl, ?_, _, rfl⟩
      have hi : dItemsL (dSh (dVar 1)) [.fz (.tup l), .ls (tupsT A), .fz (.int i), .un, .un] = some (A.map .tup, [.fz (.tup l), .fz (.lst (A.map .tup)), .fz (.int i), .un, .un]) := by
        simp [dItemsL, dSh, dVar, share, data_tups]
      obtain ⟨r', k1, x', y', rfl⟩ := comp2_map (h := gdName 3) (h1 := gdName 4) (e := dMv (dOp gCatT (dSh (dVar 3)) (dSh (dWith (fdCons (dSh (dVar 4)) fdNil) gTupD)))) (f1 := dRange1 (fdCons (dSh (dVar 2)) fdNil)) (own := [3, 4]) (own1 := [4]) (P := fun r => ∃ x y, r = [.fz (.tup l), .fz (.lst (A.map .tup)), .fz (.int i), x, y]) (g := grow i.toNat) (A.map .tup) [.fz (.tup l), .fz (.lst (A.map .tup)), .fz (.int i), .un, .un] []
        (fun d hd r acc hr hb => by
          obtain ⟨x, y, rfl⟩ := hr
          obtain ⟨t, ht, rfl⟩ := List.mem_map.mp hd
          obtain ⟨r3, k3, y3, rfl⟩ := comp_map (h := gdName 4) (e := dMv (dOp gCatT (dSh (dVar 3)) (dSh (dWith (fdCons (dSh (dVar 4)) fdNil) gTupD)))) (own := [4]) (P := fun r => ∃ y, r = [.fz (.tup l), .fz (.lst (A.map .tup)), .fz (.int i), .fz (.tup t), y]) (g := fun j => .fz (.tup (t ++ [j]))) (upto 0 i.toNat) [.fz (.tup l), .fz (.lst (A.map .tup)), .fz (.int i), .fz (.tup t), .un] acc
            (fun j hj r hr => by
              obtain ⟨y, rfl⟩ := hr
              obtain ⟨jj, rfl⟩ := upto_mem hj
              have := q2 t ht
              have hc : t.length + 1 ≤ 1000000 := by omega
              refine ⟨[.fz (.tup l), .fz (.lst (A.map .tup)), .fz (.int i), .fz (.tup t), .fz (.int jj)], [.fz (.tup l), .fz (.lst (A.map .tup)), .fz (.int i), .fz (.tup t), .fz (.int jj)], rfl, ?_, _, rfl⟩
              simp [dMv, dOp, dWith, fdCons, fdNil, dSh, dVar, share, T.data, gTupD, Rs.w, gCatT, hc, mv]) ⟨_, rfl⟩ (by simpa [grow] using hb)
          refine ⟨[.fz (.tup l), .fz (.lst (A.map .tup)), .fz (.int i), .fz (.tup t), .un], upto 0 i.toNat, [.fz (.tup l), .fz (.lst (A.map .tup)), .fz (.int i), .fz (.tup t), .un], _, rfl, ?_, k3, _, _, rfl⟩
          have a1 : -(2 ^ 62) ≤ i := by omega
          have a2 : i < 2 ^ 62 := by omega
          simp only [dRange1, fdCons, fdNil, dSh, dVar, share, T.data]
          simp [a1, a2, share, T.data]
          omega) ⟨_, _, rfl⟩ (by rw [show (A.map D.tup).flatMap (grow i.toNat) = tupsT (stepL A (.int i)) from grow_all A (.int i), tupsT_len]; simp; omega)
      rw [show (A.map D.tup).flatMap (grow i.toNat) = tupsT (stepL A (.int i)) from grow_all A (.int i)] at k1
      simp only [dAsg, xLift, dComp2, hi, Option.bind_some, k1]
      rfl
    obtain ⟨r', e1, x, rfl⟩ := loop_all (h := gdName 2) (st := fun A r => ∃ x, r = [.fz (.tup l), .ls (tupsT A), x, .un, .un]) (f := stepL) (a0 := [[]]) (l := l) (r := [.fz (.tup l), .ls (tupsT [[]]), .un, .un, .un]) body ⟨_, rfl⟩
    have st : b_letters_of Z [.fz (.tup l), .un, .un, .un, .un] = some (.rt (.pl 1) [.fz (.tup l), .ls (tupsT (lets l)), x, .un, .un]) := by
      unfold b_letters_of
      rw [seq_nx (r1 := [.fz (.tup l), .un, .un, .un, .un]) (by simp only [dDrop]; simp [e])]
      rw [seq_nx (r1 := [.fz (.tup l), .ls (tupsT [[]]), .un, .un, .un]) (by rfl)]
      rw [seq_nx (for_nx (l := l) (r1 := [.fz (.tup l), .ls (tupsT [[]]), .un, .un, .un]) (by rfl) e1)]
      rfl
    show fnD 1 5 [true] (b_letters_of Z) [.fz (.tup l)] = _
    unfold fnD
    rw [if_pos rfl]
    show ((b_letters_of Z [.fz (.tup l), .un, .un, .un, .un]).bind _) = _
    rw [st]
    rfl
end K1

set_option Elab.async false
set_option linter.all false
set_option maxRecDepth 100000
set_option maxHeartbeats 1000000
namespace K1
open PySem PySem.Spec PyProof.Rows L2 Q
def listT (t : T) (A : List (List D)) : Prop := t = .ls (tupsT A) ∨ t = .fz (.lst (A.map .tup))
theorem listT_data {t : T} {A : List (List D)} (h : listT t A) : t.data = some (.lst (A.map .tup)) := by
  rcases h with rfl | rfl
  · exact data_tups A
  · rfl
theorem listT_un {t : T} {A : List (List D)} (h : listT t A) : t ≠ .un := by
  rcases h with rfl | rfl <;> exact fun z => by cases z
theorem share_list {t : T} {A : List (List D)} (h : listT t A) (i : Nat) (r : List T) (e : r[i]? = some t) : dSh (dVar i) r = some (.lst (A.map .tup), r.set i (.fz (.lst (A.map .tup)))) := by
  have hd := listT_data h
  rcases h with rfl | rfl <;> simp [dSh, dVar, e, share, hd]
theorem v__law_letters {l : List D} (l1 : 1 ≤ l.length) (l3 : l.length ≤ 3) (hin : ∀ x ∈ l, inF x = true) : fn__law_letters [.fz (.tup l)] = some (.ret (.fz (.lst ((lets l).map .tup))), [.fz (.tup l)]) := by
  have body : ∀ pre v post, l = pre ++ v :: post → ∀ r, (∃ t x y z w, listT t (pre.foldl stepL [[]]) ∧ (pre ≠ [] → t = .fz (.lst ((pre.foldl stepL [[]]).map .tup))) ∧ r = [.fz (.tup l), t, x, y, z, w]) → ∃ r1 r2, gdName 2 r (.fz v) = some r1 ∧ (dSeq (dAsg (xLift (dWith fdNil gLstD)) (gdName 3))
      (dSeq (dFor (dItemsL (dSh (dVar 1))) (gdName 4) (dAsg (xLift (dOp gCatL (dSh (dVar 3)) (dSh (dComp (dRange1 (fdCons (dSh (dVar 2)) fdNil)) (gdName 5) dYes (dMv (dOp gCatT (dSh (dVar 4)) (dSh (dWith (fdCons (dSh (dVar 5)) fdNil) gTupD)))) [5])))) (gdName 3)))
      (dAsg (xLift (dVar 3)) (gdName 1)))) r1 = some (.nx r2) ∧ ∃ t x y z w, listT t (stepL (pre.foldl stepL [[]]) v) ∧ ((pre ++ [v]) ≠ [] → t = .fz (.lst ((stepL (pre.foldl stepL [[]]) v).map .tup))) ∧ r2 = [.fz (.tup l), t, x, y, z, w] := by
    rintro pre v post el r ⟨t, x, y, z, w, ht, _, rfl⟩
    obtain ⟨q1, q2, q3, q4⟩ := lets_small el l3 hin
    obtain ⟨i, rfl, i1, i4⟩ := inF_int q3
    generalize hA : pre.foldl stepL [[]] = A at *
    have hA' : lets pre = A := hA
    rw [hA'] at q1 q2 q4
    have inner : ∀ pr dd ps, A.map D.tup = pr ++ dd :: ps → ∀ r, (∃ z w, (pr.flatMap (grow i.toNat)).length ≤ 64 ∧ r = [.fz (.tup l), .fz (.lst (A.map .tup)), .fz (.int i), .ls (pr.foldl (fun B d => B ++ grow i.toNat d) []), z, w]) → ∃ r1 r2, gdName 4 r (.fz dd) = some r1 ∧ (dAsg (xLift (dOp gCatL (dSh (dVar 3)) (dSh (dComp (dRange1 (fdCons (dSh (dVar 2)) fdNil)) (gdName 5) dYes (dMv (dOp gCatT (dSh (dVar 4)) (dSh (dWith (fdCons (dSh (dVar 5)) fdNil) gTupD)))) [5])))) (gdName 3)) r1 = some (.nx r2) ∧ ∃ z w, ((pr ++ [dd]).flatMap (grow i.toNat)).length ≤ 64 ∧ r2 = [.fz (.tup l), .fz (.lst (A.map .tup)), .fz (.int i), .ls (pr.foldl (fun B d => B ++ grow i.toNat d) [] ++ grow i.toNat dd), z, w] := by
      rintro pr dd ps es r ⟨z, w, hb, rfl⟩
      have hd : dd ∈ A.map D.tup := by rw [es]; exact List.mem_append_right _ List.mem_cons_self
      obtain ⟨tt, htt, rfl⟩ := List.mem_map.mp hd
      have foldE : ∀ (q : List D) (B : List T), q.foldl (fun B d => B ++ grow i.toNat d) B = B ++ q.flatMap (grow i.toNat) := by
        intro q
        induction q with
        | nil => intro B; simp
        | cons a q ih => intro B; rw [List.foldl_cons, ih, List.flatMap_cons, List.append_assoc]
      have hB : pr.foldl (fun B d => B ++ grow i.toNat d) [] = pr.flatMap (grow i.toNat) := by rw [foldE]; rfl
      rw [hB]
      have hfz : ∃ C : List D, pr.flatMap (grow i.toNat) = C.map .fz ∧ C.length ≤ 64 := by
        have key : ∀ q : List D, ∃ C : List D, q.flatMap (grow i.toNat) = C.map .fz := by
          intro q
          induction q with
          | nil => exact ⟨[], rfl⟩
          | cons a q ih =>
            obtain ⟨C, hC⟩ := ih
            rw [List.flatMap_cons, hC]
            cases a with
            | tup t => exact ⟨(upto 0 i.toNat).map (fun j => .tup (t ++ [j])) ++ C, by simp [grow]⟩
            | _ => exact ⟨C, by simp [grow]⟩
        obtain ⟨C, hC⟩ := key pr
        exact ⟨C, hC, by rw [hC, List.length_map] at hb; exact hb⟩
      obtain ⟨C, hC, hCl⟩ := hfz
      have gl : (grow i.toNat (.tup tt)).length ≤ 4 := by simp [grow, upto_len]; omega
      have tot : ((pr ++ [D.tup tt]).flatMap (grow i.toNat)).length ≤ 64 := by
        have e1 := grow_all A (.int i)
        have e2 : (valI (.int i)).toNat = i.toNat := rfl
        rw [e2, es, List.flatMap_append, List.flatMap_cons] at e1
        have := congrArg List.length e1
        rw [tupsT_len] at this
        simp at this ⊢
        omega
      obtain ⟨r3, k3, y3, rfl⟩ := comp_map (h := gdName 5) (e := dMv (dOp gCatT (dSh (dVar 4)) (dSh (dWith (fdCons (dSh (dVar 5)) fdNil) gTupD)))) (own := [5]) (P := fun r => ∃ y, r = [.fz (.tup l), .fz (.lst (A.map .tup)), .fz (.int i), .fz (.lst C), .fz (.tup tt), y]) (g := fun j => .fz (.tup (tt ++ [j]))) (upto 0 i.toNat) [.fz (.tup l), .fz (.lst (A.map .tup)), .fz (.int i), .fz (.lst C), .fz (.tup tt), w] []
        (fun j hj r hr => by
          obtain ⟨y, rfl⟩ := hr
          obtain ⟨jj, rfl⟩ := upto_mem hj
          have := q2 tt htt
          have hc : tt.length + 1 ≤ 1000000 := by omega
          refine ⟨[.fz (.tup l), .fz (.lst (A.map .tup)), .fz (.int i), .fz (.lst C), .fz (.tup tt), .fz (.int jj)], [.fz (.tup l), .fz (.lst (A.map .tup)), .fz (.int i), .fz (.lst C), .fz (.tup tt), .fz (.int jj)], rfl, ?_, _, rfl⟩
          simp [dMv, dOp, dWith, fdCons, fdNil, dSh, dVar, share, T.data, gTupD, Rs.w, gCatT, hc, mv]) ⟨_, rfl⟩ (by rw [upto_len]; simp; omega)
      have a1 : -(2 ^ 62) ≤ i := by omega
      have a2 : i < 2 ^ 62 := by omega
      have hr : dRange1 (fdCons (dSh (dVar 2)) fdNil) [.fz (.tup l), .fz (.lst (A.map .tup)), .fz (.int i), .fz (.lst C), .fz (.tup tt), w] = some (upto 0 i.toNat, [.fz (.tup l), .fz (.lst (A.map .tup)), .fz (.int i), .fz (.lst C), .fz (.tup tt), w]) := by
        simp only [dRange1, fdCons, fdNil, dSh, dVar, share, T.data]
        simp [share, T.data]
        omega
      have hc : dSh (dComp (dRange1 (fdCons (dSh (dVar 2)) fdNil)) (gdName 5) dYes (dMv (dOp gCatT (dSh (dVar 4)) (dSh (dWith (fdCons (dSh (dVar 5)) fdNil) gTupD)))) [5]) [.fz (.tup l), .fz (.lst (A.map .tup)), .fz (.int i), .fz (.lst C), .fz (.tup tt), w] = some (.lst ((upto 0 i.toNat).map fun j => .tup (tt ++ [j])), [.fz (.tup l), .fz (.lst (A.map .tup)), .fz (.int i), .fz (.lst C), .fz (.tup tt), keepP w]) := by
        have hdat : dataL ((upto 0 i.toNat).map fun j => T.fz (.tup (tt ++ [j]))) = some ((upto 0 i.toNat).map fun j => .tup (tt ++ [j])) := by
          have := dataL_fz ((upto 0 i.toNat).map fun j => .tup (tt ++ [j]))
          rw [List.map_map] at this
          exact this
        simp only [dSh, dComp, hr, Option.bind_some, k3, List.nil_append, share, T.data, hdat]
        rfl
      have hv : dSh (dVar 3) [.fz (.tup l), .fz (.lst (A.map .tup)), .fz (.int i), .ls (C.map .fz), .fz (.tup tt), w] = some (.lst C, [.fz (.tup l), .fz (.lst (A.map .tup)), .fz (.int i), .fz (.lst C), .fz (.tup tt), w]) := by
        have : T.data (.ls (C.map .fz)) = some (.lst C) := by show (dataL _).map D.lst = _; rw [dataL_fz]; rfl
        simp [dSh, dVar, share, this]
      refine ⟨[.fz (.tup l), .fz (.lst (A.map .tup)), .fz (.int i), .ls (C.map .fz), .fz (.tup tt), w], [.fz (.tup l), .fz (.lst (A.map .tup)), .fz (.int i), .ls (C.map .fz ++ grow i.toNat (.tup tt)), .fz (.tup tt), keepP w], by rw [hC]; rfl, ?_, _, _, tot, by rw [hC]⟩
      have sz : C.length + ((upto 0 i.toNat).map fun j => D.tup (tt ++ [j])).length ≤ 1000000 := by rw [List.length_map, upto_len]; omega
      have ev := asg_nw (i := 3) (op_eval (g := gCatL) (z := .newL (C ++ (upto 0 i.toNat).map fun j => D.tup (tt ++ [j]))) hv hc (if_pos sz))
      refine ev.trans ?_
      simp [grow]
    obtain ⟨r', e1, z', w', hb', rfl⟩ := loop_all (h := gdName 4) (st := fun (B : List T) r => ∃ z w, B.length ≤ 64 ∧ r = [.fz (.tup l), .fz (.lst (A.map .tup)), .fz (.int i), .ls B, z, w]) (f := fun B d => B ++ grow i.toNat d) (a0 := []) (l := A.map .tup) (r := [.fz (.tup l), .fz (.lst (A.map .tup)), .fz (.int i), .ls [], z, w])
      (fun pr dd ps es r hr => by
        have foldE : ∀ (q : List D) (B : List T), q.foldl (fun B d => B ++ grow i.toNat d) B = B ++ q.flatMap (grow i.toNat) := by
          intro q
          induction q with
          | nil => intro B; simp
          | cons a q ih => intro B; rw [List.foldl_cons, ih, List.flatMap_cons, List.append_assoc]
        obtain ⟨z, w, hb, rfl⟩ := hr
        obtain ⟨r1, r2, k1, k2, z2, w2, k3, k4⟩ := inner pr dd ps es _ ⟨z, w, by rw [foldE, List.nil_append] at hb; exact hb, rfl⟩
        refine ⟨r1, r2, k1, k2, z2, w2, ?_, k4⟩
        rw [foldE, List.nil_append]
        rw [List.flatMap_append] at k3
        simpa using k3) ⟨_, _, by simp, rfl⟩
    have fin : (A.map D.tup).foldl (fun B d => B ++ grow i.toNat d) [] = tupsT (stepL A (.int i)) := by
      have foldE : ∀ (q : List D) (B : List T), q.foldl (fun B d => B ++ grow i.toNat d) B = B ++ q.flatMap (grow i.toNat) := by
        intro q
        induction q with
        | nil => intro B; simp
        | cons a q ih => intro B; rw [List.foldl_cons, ih, List.flatMap_cons, List.append_assoc]
      rw [foldE, List.nil_append]
      exact grow_all A (.int i)
    rw [fin] at e1
    refine ⟨[.fz (.tup l), t, .fz (.int i), y, z, w], [.fz (.tup l), .fz (.lst ((stepL A (.int i)).map .tup)), .fz (.int i), .fz (.lst ((stepL A (.int i)).map .tup)), z', w'], rfl, ?_, _, _, _, _, _, Or.inr rfl, fun _ => rfl, rfl⟩
    rw [seq_nx (r1 := [.fz (.tup l), t, .fz (.int i), .ls [], z, w]) (by rfl)]
    rw [seq_nx (for_nx (l := A.map .tup) (r1 := [.fz (.tup l), .fz (.lst (A.map .tup)), .fz (.int i), .ls [], z, w]) (by
      have := share_list ht 1 [.fz (.tup l), t, .fz (.int i), .ls [], z, w] rfl
      simp only [dItemsL, this, Option.bind_some]
      rfl) e1)]
    have hd := data_tups (stepL A (.int i))
    simp [dAsg, xLift, dVar, mv, share, hd, gdName]
  obtain ⟨r', e1, t, x, y, z, w, h1, h2, rfl⟩ := loop_all (h := gdName 2) (st := fun (p : List D × List (List D)) r => ∃ t x y z w, listT t p.2 ∧ (p.1 ≠ [] → t = .fz (.lst (p.2.map .tup))) ∧ r = [.fz (.tup l), t, x, y, z, w]) (f := fun p d => (p.1 ++ [d], stepL p.2 d)) (a0 := ([], [[]])) (l := l) (r := [.fz (.tup l), .ls (tupsT [[]]), .un, .un, .un, .un])
    (fun pre d post el r hr => by
      have two : ∀ (q : List D) (a : List D) (b : List (List D)), q.foldl (fun (p : List D × List (List D)) d => (p.1 ++ [d], stepL p.2 d)) (a, b) = (a ++ q, q.foldl stepL b) := by
        intro q
        induction q with
        | nil => intro a b; simp
        | cons c q ih => intro a b; rw [List.foldl_cons, ih]; simp
      rw [two] at hr ⊢
      exact body pre d post el r hr) ⟨_, _, _, _, _, Or.inl rfl, fun z => absurd rfl z, rfl⟩
  have two : ∀ (q : List D) (a : List D) (b : List (List D)), q.foldl (fun (p : List D × List (List D)) d => (p.1 ++ [d], stepL p.2 d)) (a, b) = (a ++ q, q.foldl stepL b) := by
    intro q
    induction q with
    | nil => intro a b; simp
    | cons c q ih => intro a b; rw [List.foldl_cons, ih]; simp
  rw [two] at h1 h2
  have ne : l ≠ [] := fun z => by rw [z] at l1; simp at l1
  have ht := h2 (by simpa using ne)
  subst ht
  have st : b__law_letters [.fz (.tup l), .un, .un, .un, .un, .un] = some (.rt (.pl 1) [.fz (.tup l), .fz (.lst ((lets l).map .tup)), x, y, z, w]) := by
    unfold b__law_letters
    rw [seq_nx (r1 := [.fz (.tup l), .ls (tupsT [[]]), .un, .un, .un, .un]) (by rfl)]
    rw [seq_nx (for_nx (l := l) (r1 := [.fz (.tup l), .ls (tupsT [[]]), .un, .un, .un, .un]) (by rfl) e1)]
    rfl
  show fnD 1 6 [true] b__law_letters [.fz (.tup l)] = _
  unfold fnD
  rw [if_pos (show [T.fz (D.tup l)].length = 1 from rfl)]
  show ((b__law_letters [.fz (.tup l), .un, .un, .un, .un, .un]).bind _) = _
  rw [st]
  rfl
end K1

set_option Elab.async false
set_option linter.all false
set_option maxRecDepth 100000
set_option maxHeartbeats 1000000
namespace K1
open PySem PySem.Spec PyProof.Rows L2 Q
theorem v__law_take {n k : Int} (hk : 0 < k) (hk2 : k < 1000) : fn__law_take [.ls [.fz (.int n)], .fz (.int k)] = some (.ret (.fz (.int (n % k))), [.ls [.fz (.int (n / k))], .fz (.int k)]) := by
  have hc : CDivW n k := wide_div hk (b := 10) (by omega) (by decide) (by decide)
  simp [fn__law_take, fnD, b__law_take, dSeq, dAsg, xLift, dOp, dWith, fdCons, fdNil, dSh, dIxO, isLs, dC, share, atI, ixN, dVar, T.data, gMod, gRI, hk, Rs.w, mv, gdName, gDiv, hc, gdIx, dRet, retW, outP]
theorem v__law_mixed {c k : Int} (hk : -(2 ^ 40) < k ∧ k < 2 ^ 40) : ∃ v, 0 ≤ v ∧ v < 2147483579 ∧ fn__law_mixed [.fz (.int c), .fz (.int k)] = some (.ret (.fz (.int v)), [.fz (.int c), .fz (.int k)]) := by
  have m1 := Int.emod_nonneg c (show (2147483647 : Int) ≠ 0 by decide)
  have m2 := Int.emod_lt_of_pos c (show (0 : Int) < 2147483647 by decide)
  generalize hx : c % 2147483647 = x at m1 m2
  have c1 : CMulW x 48271 := mulW_small 32 17 (by omega) (by decide) (by decide) (by decide) (by decide)
  have c2 : CMulW k 69621 := mulW_small 41 18 (by omega) (by decide) (by decide) (by decide) (by decide)
  have n1 := Int.emod_nonneg (x * 48271 + k * 69621 + 1048583) (show (2147483629 : Int) ≠ 0 by decide)
  have n2 := Int.emod_lt_of_pos (x * 48271 + k * 69621 + 1048583) (show (0 : Int) < 2147483629 by decide)
  generalize hy : (x * 48271 + k * 69621 + 1048583) % 2147483629 = y at n1 n2
  have c3 : CMulW y y := mulW_small 32 32 (by omega) (by omega) (by decide) (by decide) (by decide)
  have o1 := Int.emod_nonneg (y * y) (show (2147483587 : Int) ≠ 0 by decide)
  have o2 := Int.emod_lt_of_pos (y * y) (show (0 : Int) < 2147483587 by decide)
  generalize hz : y * y % 2147483587 = z at o1 o2
  have c4 : CMulW z (z + 2) := mulW_small 32 33 (by omega) (by omega) (by decide) (by decide) (by decide)
  have p1 := Int.emod_nonneg (z * (z + 2)) (show (2147483579 : Int) ≠ 0 by decide)
  have p2 := Int.emod_lt_of_pos (z * (z + 2)) (show (0 : Int) < 2147483579 by decide)
  refine ⟨z * (z + 2) % 2147483579, p1, p2, ?_⟩
  simp [fn__law_mixed, fnD, b__law_mixed, dSeq, dAsg, xLift, dOp, dWith, fdCons, fdNil, dSh, dC, share, dVar, T.data, gMod, gRI, gRI0, gAdd, gMul, Rs.w, mv, gdName, dRet, retW, outP, hx, c1, c2, hy, c3, hz, c4]
theorem v__law_cell {ns : List Int} {k : Int} (h0 : 0 ≤ k) (h1 : k < 64) : ∃ c, fn__law_cell [.fz (.scr ns), .fz (.int k)] = some (.ret (.fz (.int c)), [.fz (.scr ns), .fz (.int k)]) := by
  -- the cell itself
  have cell : ∃ x : Int, (dIf (xbLift (dBl (dSh (dOp gLt (dSh (dVar 1)) (dSh (dWith (fdCons (dSh (dVar 0)) fdNil) gLen)))))) (dAsg (xLift (dOp gIx (dSh (dVar 0)) (dSh (dVar 1)))) (gdName 2)) dNext) [.fz (.scr ns), .fz (.int k), .fz (.int 0), .un, .un] = some (.nx [.fz (.scr ns), .fz (.int k), .fz (.int x), .un, .un]) := by
    by_cases c : k < ns.length
    · have hk : k.toNat < ns.length := by omega
      refine ⟨ns[k.toNat], ?_⟩
      have a1 : atI (ns.map D.int) k = some (.int ns[k.toNat]) := by
        unfold L2.atI L2.ixN
        rw [if_pos h0, List.length_map, if_pos c]
        simp [hk]
      simp [dIf, xbLift, dBl, dSh, dOp, dWith, fdCons, fdNil, dVar, share, T.data, gLen, D.items, Rs.w, gLt, gRI0, D.bool, c, dAsg, xLift, gIx, a1, mv, gdName]
    · refine ⟨0, ?_⟩
      simp [dIf, xbLift, dBl, dSh, dOp, dWith, fdCons, fdNil, dVar, share, T.data, gLen, D.items, Rs.w, gLt, gRI0, D.bool, c, dNext]
  obtain ⟨x, hx⟩ := cell
  have s1 : b__law_cell [.fz (.scr ns), .fz (.int k), .un, .un, .un] = (dSeq (dIf (xbLift (dBl (dSh (dOp gGe (dSh (dVar 2)) (dSh (dOp gPow (dSh (dC (.int 10))) (dSh (dC (.int 18))))))))) (dRet (xLift (dOp gMod (dSh (dOp gSubI (dSh (dVar 2)) (dSh (dOp gPow (dSh (dC (.int 10))) (dSh (dC (.int 18))))))) (dSh (dOp gMul (dSh (dOp gMul (dSh (dOp gMul (dSh (dOp gPow (dSh (dC (.int 10))) (dSh (dC (.int 60))))) (dSh (dOp gPow (dSh (dC (.int 10))) (dSh (dC (.int 60))))))) (dSh (dOp gPow (dSh (dC (.int 10))) (dSh (dC (.int 60))))))) (dSh (dOp gPow (dSh (dC (.int 10))) (dSh (dC (.int 60)))))))))) dNext)
    (dSeq (dAsg (xLift (dC (.int 0))) (gdName 3))
    (dSeq (dFor (dRange1 (fdCons (dSh (dC (.int 24))) fdNil)) (gdName 4) (dAsg (xLift (dOp gAdd (dSh (dOp gMul (dSh (dVar 3)) (dSh (dC (.int 2147483579))))) (dSh (dCall fn__law_mixed (daCons (dVar 2) (daCons (dOp gAdd (dSh (dOp gAdd (dSh (dOp gMul (dSh (dC (.int 7))) (dSh (dVar 1)))) (dSh (dOp gMul (dSh (dC (.int 100))) (dSh (dVar 4)))))) (dSh (dOp gMul (dSh (dVar 4)) (dSh (dVar 4))))) daNil)))))) (gdName 3)))
    (dRet (xLift (dVar 3)))))) [.fz (.scr ns), .fz (.int k), .fz (.int x), .un, .un] := by
    unfold b__law_cell
    rw [seq_nx (r1 := [.fz (.scr ns), .fz (.int k), .fz (.int 0), .un, .un]) (by rfl)]
    rw [seq_nx hx]
  have pw : CPow 10 18 := ⟨by decide, by decide, by decide⟩
  have pw2 : CPow 10 60 := ⟨by decide, by decide, by decide⟩
  by_cases big : (10 : Int) ^ 18 ≤ x
  · have q1 : CMulW ((10 : Int) ^ 60) (10 ^ 60) := by decide +kernel
    have q2 : CMulW ((10 : Int) ^ 60 * 10 ^ 60) (10 ^ 60) := by decide +kernel
    have q3 : CMulW ((10 : Int) ^ 60 * 10 ^ 60 * 10 ^ 60) (10 ^ 60) := by decide +kernel
    have q4 : (0 : Int) < 10 ^ 60 * 10 ^ 60 * 10 ^ 60 * 10 ^ 60 := by decide +kernel
    refine ⟨(x - 10 ^ 18) % (10 ^ 60 * 10 ^ 60 * 10 ^ 60 * 10 ^ 60), ?_⟩
    refine (fn_rt (d := .int ((x - (10 : Int) ^ 18) % (10 ^ 60 * 10 ^ 60 * 10 ^ 60 * 10 ^ 60))) (r := [.fz (.scr ns), .fz (.int k), .fz (.int x), .un, .un]) (by rfl) (s1.trans (seq_rt ?_)) (by simp)).trans (by rfl)
    have e18 : dSh (dOp gPow (dSh (dC (.int 10))) (dSh (dC (.int 18)))) [.fz (.scr ns), .fz (.int k), .fz (.int x), .un, .un] = some (.int (10 ^ 18), [.fz (.scr ns), .fz (.int k), .fz (.int x), .un, .un]) := sh_sh (op_eval (z := .val (.int (10 ^ 18))) rfl rfl (if_pos (e := none) pw))
    have e60 : dSh (dOp gPow (dSh (dC (.int 10))) (dSh (dC (.int 60)))) [.fz (.scr ns), .fz (.int k), .fz (.int x), .un, .un] = some (.int (10 ^ 60), [.fz (.scr ns), .fz (.int k), .fz (.int x), .un, .un]) := sh_sh (op_eval (z := .val (.int (10 ^ 60))) rfl rfl (if_pos (e := none) pw2))
    have ev : dSh (dVar 2) [.fz (.scr ns), .fz (.int k), .fz (.int x), .un, .un] = some (.int x, [.fz (.scr ns), .fz (.int k), .fz (.int x), .un, .un]) := rfl
    have g1 := bl_of (sh_sh (op_eval (g := gGe) (z := .val (.bl (decide ((10 : Int) ^ 18 ≤ x)))) ev e18 rfl))
    have m1 := sh_sh (op_eval (g := gMul) (z := .val (.int ((10 : Int) ^ 60 * 10 ^ 60))) e60 e60 (if_pos (e := none) q1))
    have m2 := sh_sh (op_eval (g := gMul) (z := .val (.int ((10 : Int) ^ 60 * 10 ^ 60 * 10 ^ 60))) m1 e60 (if_pos (e := none) q2))
    have m3 := sh_sh (op_eval (g := gMul) (z := .val (.int ((10 : Int) ^ 60 * 10 ^ 60 * 10 ^ 60 * 10 ^ 60))) m2 e60 (if_pos (e := none) q3))
    have sb := sh_sh (op_eval (g := gSubI) (z := .val (.int (x - (10 : Int) ^ 18))) ev e18 rfl)
    have md := op_eval (g := gMod) (z := .val (.int ((x - (10 : Int) ^ 18) % (10 ^ 60 * 10 ^ 60 * 10 ^ 60 * 10 ^ 60)))) sb m3 (if_pos (e := none) q4)
    unfold dIf xbLift
    rw [g1]
    simp only [big, decide_true, Option.bind_some]
    unfold dRet xLift
    rw [md]
    rfl
  · have e18 : dSh (dOp gPow (dSh (dC (.int 10))) (dSh (dC (.int 18)))) [.fz (.scr ns), .fz (.int k), .fz (.int x), .un, .un] = some (.int (10 ^ 18), [.fz (.scr ns), .fz (.int k), .fz (.int x), .un, .un]) := sh_sh (op_eval (z := .val (.int (10 ^ 18))) rfl rfl (if_pos (e := none) pw))
    have ev : dSh (dVar 2) [.fz (.scr ns), .fz (.int k), .fz (.int x), .un, .un] = some (.int x, [.fz (.scr ns), .fz (.int k), .fz (.int x), .un, .un]) := rfl
    have g1 := bl_of (sh_sh (op_eval (g := gGe) (z := .val (.bl (decide ((10 : Int) ^ 18 ≤ x)))) ev e18 rfl))
    have turn : ∀ pre d post, upto 0 24 = pre ++ d :: post → ∀ r, (∃ f y, f.natAbs < 2 ^ (32 * pre.length + 1) ∧ r = [.fz (.scr ns), .fz (.int k), .fz (.int x), .fz (.int f), y]) → ∃ r1 r2, gdName 4 r (.fz d) = some r1 ∧ (dAsg (xLift (dOp gAdd (dSh (dOp gMul (dSh (dVar 3)) (dSh (dC (.int 2147483579))))) (dSh (dCall fn__law_mixed (daCons (dVar 2) (daCons (dOp gAdd (dSh (dOp gAdd (dSh (dOp gMul (dSh (dC (.int 7))) (dSh (dVar 1)))) (dSh (dOp gMul (dSh (dC (.int 100))) (dSh (dVar 4)))))) (dSh (dOp gMul (dSh (dVar 4)) (dSh (dVar 4))))) daNil)))))) (gdName 3)) r1 = some (.nx r2) ∧ ∃ f y, f.natAbs < 2 ^ (32 * (pre.length + 1) + 1) ∧ r2 = [.fz (.scr ns), .fz (.int k), .fz (.int x), .fz (.int f), y] := by
      rintro pre d post eu r ⟨f, y, hf, rfl⟩
      have hlen : pre.length < 24 := by
        have := congrArg List.length eu
        rw [upto_len] at this
        simp at this
        omega
      have hd : d = .int pre.length := by
        have := congrArg (fun l => l[pre.length]?) eu
        simp [upto, hlen] at this
        exact this.symm
      subst hd
      have j1 : (0 : Int) ≤ pre.length := by omega
      have j2 : (pre.length : Int) < 24 := by omega
      generalize hj : (pre.length : Int) = j at j1 j2
      have jj : (0 : Int) ≤ j * j ∧ j * j ≤ 24 * 24 := ⟨Int.mul_nonneg j1 j1, Int.mul_le_mul (by omega) (by omega) j1 (by decide)⟩
      have fb : f.natAbs < 2 ^ 800 := Nat.lt_of_lt_of_le hf (Nat.pow_le_pow_right (by decide) (by omega))
      have c1 : CMulW f 2147483579 := mulW_small 800 32 fb (by decide) (by decide) (by decide) (by decide)
      have c2 : CMulW 7 k := mulW_small 4 10 (by decide) (by omega) (by decide) (by decide) (by decide)
      have c3 : CMulW 100 j := mulW_small 8 10 (by decide) (by omega) (by decide) (by decide) (by decide)
      have c4 : CMulW j j := mulW_small 10 10 (by omega) (by omega) (by decide) (by decide) (by decide)
      obtain ⟨v, v0, v1, hv⟩ := v__law_mixed (c := x) (k := 7 * k + 100 * j + j * j) (by omega)
      refine ⟨[.fz (.scr ns), .fz (.int k), .fz (.int x), .fz (.int f), .fz (.int j)], [.fz (.scr ns), .fz (.int k), .fz (.int x), .fz (.int (f * 2147483579 + v)), .fz (.int j)], rfl, ?_, f * 2147483579 + v, .fz (.int j), ?_, rfl⟩
      · have m0 := sh_sh (op_eval (g := gMul) (fa := dSh (dVar 3)) (fb := dSh (dC (.int 2147483579))) (r := [.fz (.scr ns), .fz (.int k), .fz (.int x), .fz (.int f), .fz (.int j)]) (z := .val (.int (f * 2147483579))) rfl rfl (if_pos (e := none) c1))
        have m1 := sh_sh (op_eval (g := gMul) (fa := dSh (dC (.int 7))) (fb := dSh (dVar 1)) (r := [.fz (.scr ns), .fz (.int k), .fz (.int x), .fz (.int f), .fz (.int j)]) (z := .val (.int (7 * k))) rfl rfl (if_pos (e := none) c2))
        have m2 := sh_sh (op_eval (g := gMul) (fa := dSh (dC (.int 100))) (fb := dSh (dVar 4)) (r := [.fz (.scr ns), .fz (.int k), .fz (.int x), .fz (.int f), .fz (.int j)]) (z := .val (.int (100 * j))) rfl rfl (if_pos (e := none) c3))
        have m3 := sh_sh (op_eval (g := gMul) (fa := dSh (dVar 4)) (fb := dSh (dVar 4)) (r := [.fz (.scr ns), .fz (.int k), .fz (.int x), .fz (.int f), .fz (.int j)]) (z := .val (.int (j * j))) rfl rfl (if_pos (e := none) c4))
        have a1 := sh_sh (op_eval (g := gAdd) (z := .val (.int (7 * k + 100 * j))) m1 m2 rfl)
        have a2 := op_eval (g := gAdd) (z := .val (.int (7 * k + 100 * j + j * j))) a1 m3 rfl
        have cl := call_sh (fn := fn__law_mixed) (f := daCons (dVar 2) (daCons (dOp gAdd (dSh (dOp gAdd (dSh (dOp gMul (dSh (dC (.int 7))) (dSh (dVar 1)))) (dSh (dOp gMul (dSh (dC (.int 100))) (dSh (dVar 4)))))) (dSh (dOp gMul (dSh (dVar 4)) (dSh (dVar 4))))) daNil)) (r := [.fz (.scr ns), .fz (.int k), .fz (.int x), .fz (.int f), .fz (.int j)]) (r1 := [.fz (.scr ns), .fz (.int k), .fz (.int x), .fz (.int f), .fz (.int j)]) (r2 := [.fz (.scr ns), .fz (.int k), .fz (.int x), .fz (.int f), .fz (.int j)]) (ws := [.pl 2, .sh (.int (7 * k + 100 * j + j * j))]) (by simp only [daCons, daNil, show dVar 2 [.fz (.scr ns), .fz (.int k), .fz (.int x), .fz (.int f), .fz (.int j)] = some (.pl 2, [.fz (.scr ns), .fz (.int k), .fz (.int x), .fz (.int f), .fz (.int j)]) from rfl, Option.bind_some, a2, Rs.w]; rfl) (by rfl) hv rfl
        exact asg_sh (i := 3) (op_eval (g := gAdd) (z := .val (.int (f * 2147483579 + v))) m0 (sh_sh cl) rfl)
      · have e32 : 2 ^ (32 * (pre.length + 1) + 1) = 2 ^ (32 * pre.length + 1) * 4294967296 := by
          rw [show 32 * (pre.length + 1) + 1 = (32 * pre.length + 1) + 32 by omega, Nat.pow_add]
        rw [e32]
        have : (0 : Nat) < 2 ^ (32 * pre.length + 1) := Nat.pow_pos (by decide)
        generalize 2 ^ (32 * pre.length + 1) = M at hf this
        omega
    obtain ⟨r', e1, f, y, _, rfl⟩ := loop_all (h := gdName 4) (st := fun (n : Nat) r => ∃ f y, f.natAbs < 2 ^ (32 * n + 1) ∧ r = [.fz (.scr ns), .fz (.int k), .fz (.int x), .fz (.int f), y]) (f := fun n _ => n + 1) (a0 := 0) (l := upto 0 24) (r := [.fz (.scr ns), .fz (.int k), .fz (.int x), .fz (.int 0), .un])
      (fun pre d post eu r hr => by
        have cnt : ∀ (q : List D) (n : Nat), q.foldl (fun n _ => n + 1) n = n + q.length := by
          intro q
          induction q with
          | nil => intro n; rfl
          | cons a q ih => intro n; rw [List.foldl_cons, ih, List.length_cons]; omega
        rw [cnt, Nat.zero_add] at hr ⊢
        exact turn pre d post eu r hr) ⟨0, .un, by decide, rfl⟩
    refine ⟨f, ?_⟩
    have fin : b__law_cell [.fz (.scr ns), .fz (.int k), .un, .un, .un] = some (.rt (.pl 3) [.fz (.scr ns), .fz (.int k), .fz (.int x), .fz (.int f), y]) := by
      rw [s1]
      rw [seq_nx (r1 := [.fz (.scr ns), .fz (.int k), .fz (.int x), .un, .un]) (by unfold dIf xbLift; rw [g1, decide_eq_false big]; rfl)]
      rw [seq_nx (r1 := [.fz (.scr ns), .fz (.int k), .fz (.int x), .fz (.int 0), .un]) (by rfl)]
      rw [seq_nx (for_nx (l := upto 0 24) (r1 := [.fz (.scr ns), .fz (.int k), .fz (.int x), .fz (.int 0), .un]) (by rfl) e1)]
      rfl
    show fnD 2 5 [true, true] b__law_cell [.fz (.scr ns), .fz (.int k)] = _
    unfold fnD
    rw [if_pos (show [T.fz (.scr ns), T.fz (.int k)].length = 2 from rfl)]
    show ((b__law_cell [.fz (.scr ns), .fz (.int k), .un, .un, .un]).bind _) = _
    rw [fin]
    rfl
end K1

set_option Elab.async false
set_option linter.all false
namespace K1
open PySem PySem.Spec PyProof.Rows L2 Q
structure Fcts (K : PySem.W.Frag) (Z : Zs) : Prop where
  ex_NoShape : ExcC K Z.NoShape
  i_NoShape_NoCount : PySem.W.kitOne K (.ref Z.NoShape) (.ref Z.NoCount) = some false
  i_NoShape_NoLetter : PySem.W.kitOne K (.ref Z.NoShape) (.ref Z.NoLetter) = some false
  i_NoShape_NoLine : PySem.W.kitOne K (.ref Z.NoShape) (.ref Z.NoLine) = some false
  i_NoShape_NoName : PySem.W.kitOne K (.ref Z.NoShape) (.ref Z.NoName) = some false
  i_NoShape_NoSaying : PySem.W.kitOne K (.ref Z.NoShape) (.ref Z.NoSaying) = some false
  i_NoShape_NoShape : PySem.W.kitOne K (.ref Z.NoShape) (.ref Z.NoShape) = some true
  i_NoShape_NoTable : PySem.W.kitOne K (.ref Z.NoShape) (.ref Z.NoTable) = some false
  i_NoShape_NoTest : PySem.W.kitOne K (.ref Z.NoShape) (.ref Z.NoTest) = some false
  i_NoShape_NoText : PySem.W.kitOne K (.ref Z.NoShape) (.ref Z.NoText) = some false
  i_NoShape_NoUndo : PySem.W.kitOne K (.ref Z.NoShape) (.ref Z.NoUndo) = some false
  i_NoShape_SayError : PySem.W.kitOne K (.ref Z.NoShape) (.ref Z.SayError) = some true
  i_NoShape_TooMany : PySem.W.kitOne K (.ref Z.NoShape) (.ref Z.TooMany) = some false
  i_NoShape_ValueError : PySem.W.kitOne K (.ref Z.NoShape) (.type "ValueError") = some true
  m_NoShape : PySem.W.exmOne K (.ref Z.NoShape) (.ref Z.SayError) = some true
end K1

set_option Elab.async false
set_option linter.all false
set_option maxRecDepth 100000
set_option maxHeartbeats 1000000
namespace K1
open PySem PySem.Spec PyProof.Rows L2 Q
theorem isx {K : PySem.W.Frag} {a : Addr} (x : ExcC K a) {c : Value} {b : Bool} {t : List T} (h : PySem.W.kitOne K (.ref a) c = some b) : dSh (dIsX K c (dSh (dVar 0))) (.fz (.exc a) :: t) = some (.bl b, .fz (.exc a) :: t) := by
  refine sh_sh ?_
  unfold dIsX
  rw [show dSh (dVar 0) (.fz (.exc a) :: t) = some (.exc a, .fz (.exc a) :: t) from rfl]
  simp [x, h]
theorem one_eq : gEq [.lst [.str "NoShape"], .lst [.str "NoShape"]] = some (.val (.bl true)) := by
  have h1 : SeqAt.shaped (.list [.str "NoShape"]) = true := by decide +kernel
  have h2 : PyData.eqv (.list [.str "NoShape"]) (.list [.str "NoShape"]) = true := by decide +kernel
  show (if SeqAt.shaped (.list [.str "NoShape"]) = true ∧ SeqAt.shaped (.list [.str "NoShape"]) = true then some (Rs.val (.bl (PyData.eqv (.list [.str "NoShape"]) (.list [.str "NoShape"])))) else none) = _
  rw [if_pos ⟨h1, h1⟩, h2]
theorem zip_step {a n L B c u v : T} {x : Str} {b : Bool} {l : List D} {acc : List T} (h : acc.length < 1000000) : compD (gdTup 2 (gdCons (gdName 5) (gdCons (gdName 6) gdNil))) (dTru (dSh (dVar 6))) (dMv (dVar 5)) [5, 6] (.tup [.str x, .bl b] :: l) [a, n, L, B, c, u, v] acc = compD (gdTup 2 (gdCons (gdName 5) (gdCons (gdName 6) gdNil))) (dTru (dSh (dVar 6))) (dMv (dVar 5)) [5, 6] l [a, n, L, B, c, .fz (.str x), .fz (.bl b)] (if b = true then acc ++ [.fz (.str x)] else acc) := by
  cases b
  · rfl
  · show (if acc.length < 1000000 then _ else none) = _
    rw [if_pos h]
    rfl
theorem zip_comp {a : Addr} {x0 x1 x2 x3 x4 x5 x6 x7 x8 x9 x10 : Str} : (dComp (dZip (fdCons (dSh (dVar 2)) (fdCons (dSh (dVar 3)) fdNil))) (gdTup 2 (gdCons (gdName 5) (gdCons (gdName 6) gdNil))) (dTru (dSh (dVar 6))) (dMv (dVar 5)) [5, 6]) [.fz (.exc a), .fz (.str x5), .ls [.fz (.str x0), .fz (.str x1), .fz (.str x2), .fz (.str x3), .fz (.str x4), .fz (.str x5), .fz (.str x6), .fz (.str x7), .fz (.str x8), .fz (.str x9), .fz (.str x10)], .ls [.fz (.bl false), .fz (.bl false), .fz (.bl false), .fz (.bl false), .fz (.bl false), .fz (.bl true), .fz (.bl false), .fz (.bl false), .fz (.bl false), .fz (.bl false), .fz (.bl false)], .fz (.bl true), .un, .un] = some (.nw (.ls [.fz (.str x5)]), [.fz (.exc a), .fz (.str x5), .fz (.lst [.str x0, .str x1, .str x2, .str x3, .str x4, .str x5, .str x6, .str x7, .str x8, .str x9, .str x10]), .fz (.lst [.bl false, .bl false, .bl false, .bl false, .bl false, .bl true, .bl false, .bl false, .bl false, .bl false, .bl false]), .fz (.bl true), .un, .un]) := by
  unfold dComp
  rw [show (dZip (fdCons (dSh (dVar 2)) (fdCons (dSh (dVar 3)) fdNil))) [.fz (.exc a), .fz (.str x5), .ls [.fz (.str x0), .fz (.str x1), .fz (.str x2), .fz (.str x3), .fz (.str x4), .fz (.str x5), .fz (.str x6), .fz (.str x7), .fz (.str x8), .fz (.str x9), .fz (.str x10)], .ls [.fz (.bl false), .fz (.bl false), .fz (.bl false), .fz (.bl false), .fz (.bl false), .fz (.bl true), .fz (.bl false), .fz (.bl false), .fz (.bl false), .fz (.bl false), .fz (.bl false)], .fz (.bl true), .un, .un] = some ([.tup [.str x0, .bl false], .tup [.str x1, .bl false], .tup [.str x2, .bl false], .tup [.str x3, .bl false], .tup [.str x4, .bl false], .tup [.str x5, .bl true], .tup [.str x6, .bl false], .tup [.str x7, .bl false], .tup [.str x8, .bl false], .tup [.str x9, .bl false], .tup [.str x10, .bl false]], [.fz (.exc a), .fz (.str x5), .fz (.lst [.str x0, .str x1, .str x2, .str x3, .str x4, .str x5, .str x6, .str x7, .str x8, .str x9, .str x10]), .fz (.lst [.bl false, .bl false, .bl false, .bl false, .bl false, .bl true, .bl false, .bl false, .bl false, .bl false, .bl false]), .fz (.bl true), .un, .un]) from rfl]
  simp only [Option.bind_some]
  rw [zip_step (by simp), zip_step (by simp), zip_step (by simp), zip_step (by simp), zip_step (by simp), zip_step (by simp), zip_step (by simp), zip_step (by simp), zip_step (by simp), zip_step (by simp), zip_step (by simp)]
  rfl
theorem v__law_only {K : PySem.W.Frag} {Z : Zs} (f : Fcts K Z) : fn__law_only K Z [.fz (.exc Z.NoShape), .fz (.str "NoShape")] = some (.ret (.fz (.bl true)), [.fz (.exc Z.NoShape), .fz (.str "NoShape")]) := by
  refine (fn_rt (d := .bl true) (r := [.fz (.exc Z.NoShape), .fz (.str "NoShape"), .fz (.lst [.str "NoCount", .str "NoLetter", .str "NoLine", .str "NoName", .str "NoSaying", .str "NoShape", .str "NoTable", .str "NoTest", .str "NoText", .str "NoUndo", .str "TooMany"]), .fz (.lst [.bl false, .bl false, .bl false, .bl false, .bl false, .bl true, .bl false, .bl false, .bl false, .bl false, .bl false]), .fz (.bl true), .un, .un]) rfl ?_ (by simp)).trans rfl
  show b__law_only K Z [.fz (.exc Z.NoShape), .fz (.str "NoShape"), .un, .un, .un, .un, .un] = _
  unfold b__law_only
  rw [seq_nx (r1 := [.fz (.exc Z.NoShape), .fz (.str "NoShape"), .ls [.fz (.str "NoCount"), .fz (.str "NoLetter"), .fz (.str "NoLine"), .fz (.str "NoName"), .fz (.str "NoSaying"), .fz (.str "NoShape")], .un, .un, .un, .un]) (by rfl)]
  rw [seq_nx (r1 := [.fz (.exc Z.NoShape), .fz (.str "NoShape"), .ls [.fz (.str "NoCount"), .fz (.str "NoLetter"), .fz (.str "NoLine"), .fz (.str "NoName"), .fz (.str "NoSaying"), .fz (.str "NoShape"), .fz (.str "NoTable"), .fz (.str "NoTest"), .fz (.str "NoText"), .fz (.str "NoUndo"), .fz (.str "TooMany")], .un, .un, .un, .un]) (by rfl)]
  have l3 : ∀ {c1 c2 c3 : Value} {b1 b2 b3 : Bool} {t : List T}, PySem.W.kitOne K (.ref Z.NoShape) c1 = some b1 → PySem.W.kitOne K (.ref Z.NoShape) c2 = some b2 → PySem.W.kitOne K (.ref Z.NoShape) c3 = some b3 → (dWith (fdCons (dSh (dIsX K c1 (dSh (dVar 0)))) (fdCons (dSh (dIsX K c2 (dSh (dVar 0)))) (fdCons (dSh (dIsX K c3 (dSh (dVar 0)))) fdNil))) gLstD) (.fz (.exc Z.NoShape) :: t) = some (.nw (.ls [.fz (.bl b1), .fz (.bl b2), .fz (.bl b3)]), .fz (.exc Z.NoShape) :: t) := by
    intro c1 c2 c3 b1 b2 b3 t h1 h2 h3
    simp only [dWith, fdCons, fdNil, isx f.ex_NoShape h1, isx f.ex_NoShape h2, isx f.ex_NoShape h3, Option.bind_some]
    rfl
  have l2 : ∀ {c1 c2 : Value} {b1 b2 : Bool} {t : List T}, PySem.W.kitOne K (.ref Z.NoShape) c1 = some b1 → PySem.W.kitOne K (.ref Z.NoShape) c2 = some b2 → (dWith (fdCons (dSh (dIsX K c1 (dSh (dVar 0)))) (fdCons (dSh (dIsX K c2 (dSh (dVar 0)))) fdNil)) gLstD) (.fz (.exc Z.NoShape) :: t) = some (.nw (.ls [.fz (.bl b1), .fz (.bl b2)]), .fz (.exc Z.NoShape) :: t) := by
    intro c1 c2 b1 b2 t h1 h2
    simp only [dWith, fdCons, fdNil, isx f.ex_NoShape h1, isx f.ex_NoShape h2, Option.bind_some]
    rfl
  rw [seq_nx (r1 := [.fz (.exc Z.NoShape), .fz (.str "NoShape"), .ls [.fz (.str "NoCount"), .fz (.str "NoLetter"), .fz (.str "NoLine"), .fz (.str "NoName"), .fz (.str "NoSaying"), .fz (.str "NoShape"), .fz (.str "NoTable"), .fz (.str "NoTest"), .fz (.str "NoText"), .fz (.str "NoUndo"), .fz (.str "TooMany")], .ls [.fz (.bl false), .fz (.bl false), .fz (.bl false)], .un, .un, .un]) (asg_nw (l3 f.i_NoShape_NoCount f.i_NoShape_NoLetter f.i_NoShape_NoLine))]
  have a6 := asg_nw (i := 3) (op_eval (g := gCatL) (fa := dSh (dVar 3)) (r := [.fz (.exc Z.NoShape), .fz (.str "NoShape"), .ls [.fz (.str "NoCount"), .fz (.str "NoLetter"), .fz (.str "NoLine"), .fz (.str "NoName"), .fz (.str "NoSaying"), .fz (.str "NoShape"), .fz (.str "NoTable"), .fz (.str "NoTest"), .fz (.str "NoText"), .fz (.str "NoUndo"), .fz (.str "TooMany")], .ls [.fz (.bl false), .fz (.bl false), .fz (.bl false)], .un, .un, .un]) (r1 := [.fz (.exc Z.NoShape), .fz (.str "NoShape"), .ls [.fz (.str "NoCount"), .fz (.str "NoLetter"), .fz (.str "NoLine"), .fz (.str "NoName"), .fz (.str "NoSaying"), .fz (.str "NoShape"), .fz (.str "NoTable"), .fz (.str "NoTest"), .fz (.str "NoText"), .fz (.str "NoUndo"), .fz (.str "TooMany")], .fz (.lst [.bl false, .bl false, .bl false]), .un, .un, .un]) (a := .lst [.bl false, .bl false, .bl false]) (z := .newL [.bl false, .bl false, .bl false, .bl false, .bl false, .bl true]) rfl (sh_nw (d := .lst [.bl false, .bl false, .bl true]) (l3 f.i_NoShape_NoName f.i_NoShape_NoSaying f.i_NoShape_NoShape) rfl) rfl)
  rw [seq_nx (r1 := [.fz (.exc Z.NoShape), .fz (.str "NoShape"), .ls [.fz (.str "NoCount"), .fz (.str "NoLetter"), .fz (.str "NoLine"), .fz (.str "NoName"), .fz (.str "NoSaying"), .fz (.str "NoShape"), .fz (.str "NoTable"), .fz (.str "NoTest"), .fz (.str "NoText"), .fz (.str "NoUndo"), .fz (.str "TooMany")], .ls [.fz (.bl false), .fz (.bl false), .fz (.bl false), .fz (.bl false), .fz (.bl false), .fz (.bl true)], .un, .un, .un]) a6]
  have a9 := asg_nw (i := 3) (op_eval (g := gCatL) (fa := dSh (dVar 3)) (r := [.fz (.exc Z.NoShape), .fz (.str "NoShape"), .ls [.fz (.str "NoCount"), .fz (.str "NoLetter"), .fz (.str "NoLine"), .fz (.str "NoName"), .fz (.str "NoSaying"), .fz (.str "NoShape"), .fz (.str "NoTable"), .fz (.str "NoTest"), .fz (.str "NoText"), .fz (.str "NoUndo"), .fz (.str "TooMany")], .ls [.fz (.bl false), .fz (.bl false), .fz (.bl false), .fz (.bl false), .fz (.bl false), .fz (.bl true)], .un, .un, .un]) (r1 := [.fz (.exc Z.NoShape), .fz (.str "NoShape"), .ls [.fz (.str "NoCount"), .fz (.str "NoLetter"), .fz (.str "NoLine"), .fz (.str "NoName"), .fz (.str "NoSaying"), .fz (.str "NoShape"), .fz (.str "NoTable"), .fz (.str "NoTest"), .fz (.str "NoText"), .fz (.str "NoUndo"), .fz (.str "TooMany")], .fz (.lst [.bl false, .bl false, .bl false, .bl false, .bl false, .bl true]), .un, .un, .un]) (a := .lst [.bl false, .bl false, .bl false, .bl false, .bl false, .bl true]) (z := .newL [.bl false, .bl false, .bl false, .bl false, .bl false, .bl true, .bl false, .bl false, .bl false]) rfl (sh_nw (d := .lst [.bl false, .bl false, .bl false]) (l3 f.i_NoShape_NoTable f.i_NoShape_NoTest f.i_NoShape_NoText) rfl) rfl)
  rw [seq_nx (r1 := [.fz (.exc Z.NoShape), .fz (.str "NoShape"), .ls [.fz (.str "NoCount"), .fz (.str "NoLetter"), .fz (.str "NoLine"), .fz (.str "NoName"), .fz (.str "NoSaying"), .fz (.str "NoShape"), .fz (.str "NoTable"), .fz (.str "NoTest"), .fz (.str "NoText"), .fz (.str "NoUndo"), .fz (.str "TooMany")], .ls [.fz (.bl false), .fz (.bl false), .fz (.bl false), .fz (.bl false), .fz (.bl false), .fz (.bl true), .fz (.bl false), .fz (.bl false), .fz (.bl false)], .un, .un, .un]) a9]
  have a11 := asg_nw (i := 3) (op_eval (g := gCatL) (fa := dSh (dVar 3)) (r := [.fz (.exc Z.NoShape), .fz (.str "NoShape"), .ls [.fz (.str "NoCount"), .fz (.str "NoLetter"), .fz (.str "NoLine"), .fz (.str "NoName"), .fz (.str "NoSaying"), .fz (.str "NoShape"), .fz (.str "NoTable"), .fz (.str "NoTest"), .fz (.str "NoText"), .fz (.str "NoUndo"), .fz (.str "TooMany")], .ls [.fz (.bl false), .fz (.bl false), .fz (.bl false), .fz (.bl false), .fz (.bl false), .fz (.bl true), .fz (.bl false), .fz (.bl false), .fz (.bl false)], .un, .un, .un]) (r1 := [.fz (.exc Z.NoShape), .fz (.str "NoShape"), .ls [.fz (.str "NoCount"), .fz (.str "NoLetter"), .fz (.str "NoLine"), .fz (.str "NoName"), .fz (.str "NoSaying"), .fz (.str "NoShape"), .fz (.str "NoTable"), .fz (.str "NoTest"), .fz (.str "NoText"), .fz (.str "NoUndo"), .fz (.str "TooMany")], .fz (.lst [.bl false, .bl false, .bl false, .bl false, .bl false, .bl true, .bl false, .bl false, .bl false]), .un, .un, .un]) (a := .lst [.bl false, .bl false, .bl false, .bl false, .bl false, .bl true, .bl false, .bl false, .bl false]) (z := .newL [.bl false, .bl false, .bl false, .bl false, .bl false, .bl true, .bl false, .bl false, .bl false, .bl false, .bl false]) rfl (sh_nw (d := .lst [.bl false, .bl false]) (l2 f.i_NoShape_NoUndo f.i_NoShape_TooMany) rfl) rfl)
  rw [seq_nx (r1 := [.fz (.exc Z.NoShape), .fz (.str "NoShape"), .ls [.fz (.str "NoCount"), .fz (.str "NoLetter"), .fz (.str "NoLine"), .fz (.str "NoName"), .fz (.str "NoSaying"), .fz (.str "NoShape"), .fz (.str "NoTable"), .fz (.str "NoTest"), .fz (.str "NoText"), .fz (.str "NoUndo"), .fz (.str "TooMany")], .ls [.fz (.bl false), .fz (.bl false), .fz (.bl false), .fz (.bl false), .fz (.bl false), .fz (.bl true), .fz (.bl false), .fz (.bl false), .fz (.bl false), .fz (.bl false), .fz (.bl false)], .un, .un, .un]) a11]
  rw [seq_nx (r1 := [.fz (.exc Z.NoShape), .fz (.str "NoShape"), .ls [.fz (.str "NoCount"), .fz (.str "NoLetter"), .fz (.str "NoLine"), .fz (.str "NoName"), .fz (.str "NoSaying"), .fz (.str "NoShape"), .fz (.str "NoTable"), .fz (.str "NoTest"), .fz (.str "NoText"), .fz (.str "NoUndo"), .fz (.str "TooMany")], .ls [.fz (.bl false), .fz (.bl false), .fz (.bl false), .fz (.bl false), .fz (.bl false), .fz (.bl true), .fz (.bl false), .fz (.bl false), .fz (.bl false), .fz (.bl false), .fz (.bl false)], .fz (.bl true), .un, .un]) (asg_sh (d := .bl true) (r1 := [.fz (.exc Z.NoShape), .fz (.str "NoShape"), .ls [.fz (.str "NoCount"), .fz (.str "NoLetter"), .fz (.str "NoLine"), .fz (.str "NoName"), .fz (.str "NoSaying"), .fz (.str "NoShape"), .fz (.str "NoTable"), .fz (.str "NoTest"), .fz (.str "NoText"), .fz (.str "NoUndo"), .fz (.str "TooMany")], .ls [.fz (.bl false), .fz (.bl false), .fz (.bl false), .fz (.bl false), .fz (.bl false), .fz (.bl true), .fz (.bl false), .fz (.bl false), .fz (.bl false), .fz (.bl false), .fz (.bl false)], .un, .un, .un]) (by
    have h1 := bl_of (isx f.ex_NoShape f.i_NoShape_SayError (t := [.fz (.str "NoShape"), .ls [.fz (.str "NoCount"), .fz (.str "NoLetter"), .fz (.str "NoLine"), .fz (.str "NoName"), .fz (.str "NoSaying"), .fz (.str "NoShape"), .fz (.str "NoTable"), .fz (.str "NoTest"), .fz (.str "NoText"), .fz (.str "NoUndo"), .fz (.str "TooMany")], .ls [.fz (.bl false), .fz (.bl false), .fz (.bl false), .fz (.bl false), .fz (.bl false), .fz (.bl true), .fz (.bl false), .fz (.bl false), .fz (.bl false), .fz (.bl false), .fz (.bl false)], .un, .un, .un]))
    have h2 := bl_of (isx f.ex_NoShape f.i_NoShape_ValueError (t := [.fz (.str "NoShape"), .ls [.fz (.str "NoCount"), .fz (.str "NoLetter"), .fz (.str "NoLine"), .fz (.str "NoName"), .fz (.str "NoSaying"), .fz (.str "NoShape"), .fz (.str "NoTable"), .fz (.str "NoTest"), .fz (.str "NoText"), .fz (.str "NoUndo"), .fz (.str "TooMany")], .ls [.fz (.bl false), .fz (.bl false), .fz (.bl false), .fz (.bl false), .fz (.bl false), .fz (.bl true), .fz (.bl false), .fz (.bl false), .fz (.bl false), .fz (.bl false), .fz (.bl false)], .un, .un, .un]))
    simp only [dBool, dAnd, h1, h2, Option.bind_some]
    rfl))]
  have hc : (dComp (dZip (fdCons (dSh (dVar 2)) (fdCons (dSh (dVar 3)) fdNil))) (gdTup 2 (gdCons (gdName 5) (gdCons (gdName 6) gdNil))) (dTru (dSh (dVar 6))) (dMv (dVar 5)) [5, 6]) [.fz (.exc Z.NoShape), .fz (.str "NoShape"), .ls [.fz (.str "NoCount"), .fz (.str "NoLetter"), .fz (.str "NoLine"), .fz (.str "NoName"), .fz (.str "NoSaying"), .fz (.str "NoShape"), .fz (.str "NoTable"), .fz (.str "NoTest"), .fz (.str "NoText"), .fz (.str "NoUndo"), .fz (.str "TooMany")], .ls [.fz (.bl false), .fz (.bl false), .fz (.bl false), .fz (.bl false), .fz (.bl false), .fz (.bl true), .fz (.bl false), .fz (.bl false), .fz (.bl false), .fz (.bl false), .fz (.bl false)], .fz (.bl true), .un, .un] = some (.nw (.ls [.fz (.str "NoShape")]), [.fz (.exc Z.NoShape), .fz (.str "NoShape"), .fz (.lst [.str "NoCount", .str "NoLetter", .str "NoLine", .str "NoName", .str "NoSaying", .str "NoShape", .str "NoTable", .str "NoTest", .str "NoText", .str "NoUndo", .str "TooMany"]), .fz (.lst [.bl false, .bl false, .bl false, .bl false, .bl false, .bl true, .bl false, .bl false, .bl false, .bl false, .bl false]), .fz (.bl true), .un, .un]) := zip_comp
  have hq := bl_of (sh_sh (op_eval (g := gEq) (fb := dSh (dWith (fdCons (dSh (dVar 1)) fdNil) gLstD)) (b := .lst [.str "NoShape"]) (z := .val (.bl true)) (sh_nw (d := .lst [.str "NoShape"]) hc rfl) (r2 := [.fz (.exc Z.NoShape), .fz (.str "NoShape"), .fz (.lst [.str "NoCount", .str "NoLetter", .str "NoLine", .str "NoName", .str "NoSaying", .str "NoShape", .str "NoTable", .str "NoTest", .str "NoText", .str "NoUndo", .str "TooMany"]), .fz (.lst [.bl false, .bl false, .bl false, .bl false, .bl false, .bl true, .bl false, .bl false, .bl false, .bl false, .bl false]), .fz (.bl true), .un, .un]) rfl one_eq))
  unfold dRet xLift dBool dAnd
  rw [show dBl (dSh (dVar 4)) [.fz (.exc Z.NoShape), .fz (.str "NoShape"), .ls [.fz (.str "NoCount"), .fz (.str "NoLetter"), .fz (.str "NoLine"), .fz (.str "NoName"), .fz (.str "NoSaying"), .fz (.str "NoShape"), .fz (.str "NoTable"), .fz (.str "NoTest"), .fz (.str "NoText"), .fz (.str "NoUndo"), .fz (.str "TooMany")], .ls [.fz (.bl false), .fz (.bl false), .fz (.bl false), .fz (.bl false), .fz (.bl false), .fz (.bl true), .fz (.bl false), .fz (.bl false), .fz (.bl false), .fz (.bl false), .fz (.bl false)], .fz (.bl true), .un, .un] = some (true, [.fz (.exc Z.NoShape), .fz (.str "NoShape"), .ls [.fz (.str "NoCount"), .fz (.str "NoLetter"), .fz (.str "NoLine"), .fz (.str "NoName"), .fz (.str "NoSaying"), .fz (.str "NoShape"), .fz (.str "NoTable"), .fz (.str "NoTest"), .fz (.str "NoText"), .fz (.str "NoUndo"), .fz (.str "TooMany")], .ls [.fz (.bl false), .fz (.bl false), .fz (.bl false), .fz (.bl false), .fz (.bl false), .fz (.bl true), .fz (.bl false), .fz (.bl false), .fz (.bl false), .fz (.bl false), .fz (.bl false)], .fz (.bl true), .un, .un]) from rfl]
  simp only [Option.bind_some, if_true, hq]
end K1

set_option Elab.async false
set_option linter.all false
set_option maxRecDepth 100000
set_option maxHeartbeats 1000000
namespace K1
open PySem PySem.Spec PyProof.Rows L2 Q
theorem ask_yes {K : PySem.W.Frag} {Z : Zs} (f : Fcts K Z) {l : List D} (h : plain (.tup l) = true) (h2 : elsPlain (.tup l) = true) (c : isSh (.tup l) = true) : fn__law_asked K Z [.fz (.tup l)] = some (.ret (.ls [.ls (tupsT (lets l)), .fz .non]), [.fz (.tup l)]) := by
  have e : dCallX (fn_letters_of Z) (daCons (dVar 0) daNil) [.fz (.tup l), .fz .non, .fz .non, .un] = some (.inl (.nw (.ls (tupsT (lets l)))), [.fz (.tup l), .fz .non, .fz .non, .un]) := by
    simp [dCallX, daCons, daNil, dVar, pars, v_letters_of h h2, c, resW, back, putBack]
  refine (fn_nw (t := .ls [.ls (tupsT (lets l)), .fz .non]) (r := [.fz (.tup l), .un, .un, .un]) rfl ?_ (by simp)).trans rfl
  show b__law_asked K Z [.fz (.tup l), .un, .un, .un] = _
  unfold b__law_asked
  rw [seq_nx (r1 := [.fz (.tup l), .fz .non, .un, .un]) (by rfl), seq_nx (r1 := [.fz (.tup l), .fz .non, .fz .non, .un]) (by rfl), seq_nx (r1 := [.fz (.tup l), .ls (tupsT (lets l)), .fz .non, .un]) (by unfold dTry dAsg; rw [e]; rfl)]
  rfl
theorem ask_no {K : PySem.W.Frag} {Z : Zs} (f : Fcts K Z) {d : D} (h : plain d = true) (h2 : elsPlain d = true) (c : isSh d = false) : fn__law_asked K Z [.fz d] = some (.ret (.ls [.fz .non, .fz (.exc Z.NoShape)]), [.fz d]) := by
  have e : dCallX (fn_letters_of Z) (daCons (dVar 0) daNil) [.fz d, .fz .non, .fz .non, .un] = some (.inr Z.NoShape, [.fz d, .fz .non, .fz .non, .un]) := by
    simp [dCallX, daCons, daNil, dVar, pars, v_letters_of h h2, c, resW, back, putBack]
  refine (fn_nw (t := .ls [.fz .non, .fz (.exc Z.NoShape)]) (r := [.fz d, .un, .un, .un]) rfl ?_ (by simp)).trans rfl
  show b__law_asked K Z [.fz d, .un, .un, .un] = _
  unfold b__law_asked
  rw [seq_nx (r1 := [.fz d, .fz .non, .un, .un]) (by rfl), seq_nx (r1 := [.fz d, .fz .non, .fz .non, .un]) (by rfl), seq_nx (r1 := [.fz d, .fz .non, .fz (.exc Z.NoShape), .un]) (by
    unfold dTry dAsg
    rw [e]
    show (if PySem.W.exmOne K (.ref Z.NoShape) (.ref Z.SayError) = some true ∧ 3 < 4 ∧ 3 ≠ 2 then _ else none) = _
    rw [if_pos ⟨f.m_NoShape, by decide, by decide⟩]
    rfl)]
  rfl
theorem ne_bl (b : Bool) : gNe [.bl b, .bl b] = some (.val (.bl false)) := by cases b <;> rfl
theorem ne_str {s : Str} (h : PyData.strOk s = true) : gNe [.str s, .str s] = some (.val (.bl false)) := by
  show (if SeqAt.shaped (.str s) = true ∧ SeqAt.shaped (.str s) = true then some (Rs.val (.bl (!PyData.eqv (.str s) (.str s)))) else none) = _
  simp [SeqAt.shaped, PyData.eqv, PyData.canLay0, PyData.depth, h]
/-- the value can be shown and looked at -/
def okd (d : D) : Prop := plain d = true ∧ elsPlain d = true ∧ ∃ x, d.py = some x ∧ x.showable = true ∧ x.depth ≤ 100 ∧ x.shown.length ≤ 1000000 ∧ PyData.strOk x.shown = true
theorem rep_ok {d : D} (h : okd d) : ∃ s, gRep [d] = some (.val (.str s)) ∧ PyData.strOk s = true := by
  obtain ⟨_, _, x, e, c1, c2, c3, c4⟩ := h
  exact ⟨x.shown, by show (d.py.bind _) = _; rw [e]; exact if_pos ⟨c1, c2, c3⟩, c4⟩
def allSh : List (List D) :=
  let v := [1, 2, 3, 4].map fun i : Int => D.int i
  (v.map fun a => [a]) ++ (v.flatMap fun a => v.map fun b => [a, b]) ++ (v.flatMap fun a => v.flatMap fun b => v.map fun c => [a, b, c])
def goodL (l : List D) : Bool := match (D.lst ((lets l).map .tup)).py with
  | some y => SeqAt.shaped y && PyData.eqv y y
  | none => false
theorem good_all : allSh.all goodL = true := by decide +kernel
theorem mem_all {l : List D} (l1 : 1 ≤ l.length) (l3 : l.length ≤ 3) (hin : ∀ x ∈ l, inF x = true) : l ∈ allSh := by
  have one : ∀ x, inF x = true → x = .int 1 ∨ x = .int 2 ∨ x = .int 3 ∨ x = .int 4 := by
    intro x hx
    obtain ⟨i, rfl, a, b⟩ := inF_int hx
    have : i = 1 ∨ i = 2 ∨ i = 3 ∨ i = 4 := by omega
    rcases this with rfl | rfl | rfl | rfl <;> simp
  match l, l1, l3, hin with
  | [a], _, _, hin => rcases one a (hin a (by simp)) with rfl | rfl | rfl | rfl <;> simp [allSh]
  | [a, b], _, _, hin => rcases one a (hin a (by simp)) with rfl | rfl | rfl | rfl <;> rcases one b (hin b (by simp)) with rfl | rfl | rfl | rfl <;> simp [allSh]
  | [a, b, c], _, _, hin => rcases one a (hin a (by simp)) with rfl | rfl | rfl | rfl <;> rcases one b (hin b (by simp)) with rfl | rfl | rfl | rfl <;> rcases one c (hin c (by simp)) with rfl | rfl | rfl | rfl <;> simp [allSh]
  | _ :: _ :: _ :: _ :: _, _, l3, _ => simp at l3
theorem lets_py {l : List D} (l1 : 1 ≤ l.length) (l3 : l.length ≤ 3) (hin : ∀ x ∈ l, inF x = true) : ∃ y, (D.lst ((lets l).map .tup)).py = some y ∧ SeqAt.shaped y = true ∧ PyData.eqv y y = true := by
  have h := List.all_eq_true.mp good_all l (mem_all l1 l3 hin)
  unfold goodL at h
  split at h
  · rename_i y e
    rw [Bool.and_eq_true] at h
    exact ⟨y, e, h.1, h.2⟩
  · cases h
theorem ne_let {l : List D} (l1 : 1 ≤ l.length) (l3 : l.length ≤ 3) (hin : ∀ x ∈ l, inF x = true) : gNe [.lst ((lets l).map .tup), .lst ((lets l).map .tup)] = some (.val (.bl false)) := by
  obtain ⟨y, e, a, b⟩ := lets_py l1 l3 hin
  simp only [gNe, e, Option.bind_some, a, b, and_self, if_true, Bool.not_true]
theorem eq_let {l : List D} (l1 : 1 ≤ l.length) (l3 : l.length ≤ 3) (hin : ∀ x ∈ l, inF x = true) : gEq [.lst ((lets l).map .tup), .lst ((lets l).map .tup)] = some (.val (.bl true)) := by
  obtain ⟨y, e, a, b⟩ := lets_py l1 l3 hin
  simp only [gEq, e, Option.bind_some, a, b, and_self, if_true]
end K1

set_option Elab.async false
set_option linter.all false
set_option maxRecDepth 100000
set_option maxHeartbeats 1000000
namespace K1
open PySem PySem.Spec PyProof.Rows L2 Q
theorem call0 {fn : FnT} {d z : D} {t : List T} (h : fn [.fz d] = some (.ret (.fz z), [.fz d])) : dCall fn (daCons (dVar 0) daNil) (.fz d :: t) = some (.sh z, .fz d :: t) :=
  call_sh (ws := [.pl 0]) (r1 := .fz d :: t) (r2 := .fz d :: t) (ps := [.fz d]) (ps' := [.fz d]) rfl rfl h rfl
theorem call0n {fn : FnT} {d : D} {p : List T} {t : List T} (h : fn [.fz d] = some (.ret (.ls p), [.fz d])) : dCall fn (daCons (dVar 0) daNil) (.fz d :: t) = some (.nw (.ls p), .fz d :: t) := by
  simp [dCall, daCons, daNil, dVar, pars, h, resW, back, putBack]
theorem good_no {K : PySem.W.Frag} {Z : Zs} (f : Fcts K Z) {d : D} (h : okd d) (c : isSh d = false) : fn__law_good K Z [.fz d] = some (.ret (.fz (.bl true)), [.fz d]) := by
  obtain ⟨s, hs, ho⟩ := rep_ok h
  obtain ⟨h1, h2, _⟩ := h
  refine (fn_rt (d := .bl true) (r := [.fz d, .fz (.str s), .fz (.bl false), .fz .non, .fz (.exc Z.NoShape), .un, .un]) rfl ?_ (by simp)).trans rfl
  show b__law_good K Z [.fz d, .un, .un, .un, .un, .un, .un] = _
  unfold b__law_good
  rw [seq_nx (r1 := [.fz d, .fz (.str s), .un, .un, .un, .un, .un]) (asg_sh (un_eval (g := gRep) (fa := dSh (dVar 0)) (r := [.fz d, .un, .un, .un, .un, .un, .un]) (z := .val (.str s)) rfl hs))]
  have hv := v_is_shape h1 h2
  rw [c] at hv
  rw [seq_nx (r1 := [.fz d, .fz (.str s), .fz (.bl false), .un, .un, .un, .un]) (asg_sh (call0 hv))]
  rw [seq_nx (r1 := [.fz d, .fz (.str s), .fz (.bl false), .fz .non, .fz (.exc Z.NoShape), .un, .un]) (by unfold dAsg xLift; rw [call0n (ask_no f h1 h2 c)]; rfl)]
  have hl := v__law_is_shape h1 h2
  rw [c] at hl
  have q1 := bl_of (sh_sh (op_eval (g := gNe) (fa := dSh (dVar 2)) (r := [.fz d, .fz (.str s), .fz (.bl false), .fz .non, .fz (.exc Z.NoShape), .un, .un]) (r1 := [.fz d, .fz (.str s), .fz (.bl false), .fz .non, .fz (.exc Z.NoShape), .un, .un]) (r2 := [.fz d, .fz (.str s), .fz (.bl false), .fz .non, .fz (.exc Z.NoShape), .un, .un]) (a := .bl false) (z := .val (.bl false)) rfl (sh_sh (call0 hl)) (ne_bl false)))
  have q2 := bl_of (sh_sh (op_eval (g := gNe) (fb := dSh (dVar 1)) (r := [.fz d, .fz (.str s), .fz (.bl false), .fz .non, .fz (.exc Z.NoShape), .un, .un]) (r1 := [.fz d, .fz (.str s), .fz (.bl false), .fz .non, .fz (.exc Z.NoShape), .un, .un]) (r2 := [.fz d, .fz (.str s), .fz (.bl false), .fz .non, .fz (.exc Z.NoShape), .un, .un]) (b := .str s) (z := .val (.bl false)) (sh_sh (un_eval (g := gRep) (fa := dSh (dVar 0)) (z := .val (.str s)) rfl hs)) rfl (ne_str ho)))
  rw [seq_nx (r1 := [.fz d, .fz (.str s), .fz (.bl false), .fz .non, .fz (.exc Z.NoShape), .un, .un]) (by
    unfold dIf xbLift dOr
    rw [show dNot (dBl (dSh (dIsi .bool (dSh (dVar 2))))) [.fz d, .fz (.str s), .fz (.bl false), .fz .non, .fz (.exc Z.NoShape), .un, .un] = some (false, [.fz d, .fz (.str s), .fz (.bl false), .fz .non, .fz (.exc Z.NoShape), .un, .un]) from rfl]
    simp only [Option.bind_some, q1, q2, Bool.false_eq_true, if_false]
    rfl)]
  refine seq_rt ?_
  have o := call_sh (fn := fn__law_only K Z) (f := daCons (dVar 4) (daCons (dC (.str "NoShape")) daNil)) (r := [.fz d, .fz (.str s), .fz (.bl false), .fz .non, .fz (.exc Z.NoShape), .un, .un]) (r1 := [.fz d, .fz (.str s), .fz (.bl false), .fz .non, .fz (.exc Z.NoShape), .un, .un]) (r2 := [.fz d, .fz (.str s), .fz (.bl false), .fz .non, .fz (.exc Z.NoShape), .un, .un]) (ws := [.pl 4, .sh (.str "NoShape")]) rfl rfl (v__law_only f) rfl
  unfold dIf xbLift dNot
  rw [show dTru (dSh (dVar 2)) [.fz d, .fz (.str s), .fz (.bl false), .fz .non, .fz (.exc Z.NoShape), .un, .un] = some (false, [.fz d, .fz (.str s), .fz (.bl false), .fz .non, .fz (.exc Z.NoShape), .un, .un]) from rfl]
  simp only [Option.bind_some, Bool.not_false]
  unfold dRet xLift dBool dAnd
  rw [show dBl (dSh (dOp gIsN (dSh (dVar 3)) (dSh (dC .non)))) [.fz d, .fz (.str s), .fz (.bl false), .fz .non, .fz (.exc Z.NoShape), .un, .un] = some (true, [.fz d, .fz (.str s), .fz (.bl false), .fz .non, .fz (.exc Z.NoShape), .un, .un]) from rfl]
  simp only [Option.bind_some, if_true, bl_of (sh_sh o)]
theorem num_all : (allSh.all fun l => (lets l).all fun t => t.all fun x => isNum x && plain x) = true := by decide +kernel
theorem lets_num {l : List D} (l1 : 1 ≤ l.length) (l3 : l.length ≤ 3) (hin : ∀ x ∈ l, inF x = true) : ∀ t ∈ lets l, ∀ x ∈ t, isNum x = true ∧ plain x = true := by
  intro t ht x hx
  have h := List.all_eq_true.mp (List.all_eq_true.mp (List.all_eq_true.mp num_all l (mem_all l1 l3 hin)) t ht) x hx
  simpa using h
theorem data_trues {α : Type} (l : List α) : T.data (.ls (l.map fun _ => T.fz (.bl true))) = some (.lst (l.map fun _ => .bl true)) := by
  rw [show (l.map fun _ => T.fz (.bl true)) = (l.map fun _ => D.bl true).map .fz by simp]
  unfold T.data
  rw [dataL_fz]
  rfl
theorem mv_sh {f : ED} {r r1 : Q.Env} {d : D} (h : f r = some (.sh d, r1)) : dMv f r = some (.fz d, r1) := by
  unfold dMv
  rw [h]
  rfl
theorem bools_trues {α : Type} : ∀ l : List α, bools (l.map fun _ => D.bl true) = some (l.map fun _ => true)
  | [] => rfl
  | a :: l => by
    show ((D.bl true).bool.bind fun b => (bools (l.map fun _ => D.bl true)).map (b :: ·)) = _
    rw [bools_trues l]
    rfl
theorem all_trues {α : Type} (l : List α) : gAll [.lst (l.map fun _ => D.bl true)] = some (.val (.bl true)) := by
  show (bools _).bind _ = _
  rw [bools_trues l]
  simp
theorem comp_eval {f : ID} {h : GD} {b : BD} {e : MD} {own : List Nat} {r r1 r2 : Q.Env} {l : List D} {acc : List T} (h1 : f r = some (l, r1)) (h2 : compD h b e own l r1 [] = some (acc, r2)) : dComp f h b e own r = some (.nw (.ls acc), restore r1 own r2) := by
  unfold dComp
  rw [h1]
  simp only [Option.bind_some, h2]
theorem good_yes {K : PySem.W.Frag} {Z : Zs} (f : Fcts K Z) {d : D} (h : okd d) (c : isSh d = true) : fn__law_good K Z [.fz d] = some (.ret (.fz (.bl true)), [.fz d]) := by
  obtain ⟨s, hs, ho⟩ := rep_ok h
  obtain ⟨h1, h2, _⟩ := h
  obtain ⟨l, rfl, l1, l3, hin⟩ := isSh_tup c
  refine (fn_rt (d := .bl true) (r := [.fz (.tup l), .fz (.str s), .fz (.bl true), .ls [], .fz .non, .un, .un]) rfl ?_ (by simp)).trans rfl
  show b__law_good K Z [.fz (.tup l), .un, .un, .un, .un, .un, .un] = _
  unfold b__law_good
  rw [seq_nx (r1 := [.fz (.tup l), .fz (.str s), .un, .un, .un, .un, .un]) (asg_sh (un_eval (g := gRep) (fa := dSh (dVar 0)) (r := [.fz (.tup l), .un, .un, .un, .un, .un, .un]) (z := .val (.str s)) rfl hs))]
  have hv := v_is_shape h1 h2
  rw [c] at hv
  rw [seq_nx (r1 := [.fz (.tup l), .fz (.str s), .fz (.bl true), .un, .un, .un, .un]) (asg_sh (call0 hv))]
  rw [seq_nx (r1 := [.fz (.tup l), .fz (.str s), .fz (.bl true), .ls (tupsT (lets l)), .fz .non, .un, .un]) (by unfold dAsg xLift; rw [call0n (ask_yes f h1 h2 c)]; rfl)]
  have hl := v__law_is_shape h1 h2
  rw [c] at hl
  have q1 := bl_of (sh_sh (op_eval (g := gNe) (fa := dSh (dVar 2)) (r := [.fz (.tup l), .fz (.str s), .fz (.bl true), .ls (tupsT (lets l)), .fz .non, .un, .un]) (r1 := [.fz (.tup l), .fz (.str s), .fz (.bl true), .ls (tupsT (lets l)), .fz .non, .un, .un]) (r2 := [.fz (.tup l), .fz (.str s), .fz (.bl true), .ls (tupsT (lets l)), .fz .non, .un, .un]) (a := .bl true) (z := .val (.bl false)) rfl (sh_sh (call0 hl)) (ne_bl true)))
  have q2 := bl_of (sh_sh (op_eval (g := gNe) (fb := dSh (dVar 1)) (r := [.fz (.tup l), .fz (.str s), .fz (.bl true), .ls (tupsT (lets l)), .fz .non, .un, .un]) (r1 := [.fz (.tup l), .fz (.str s), .fz (.bl true), .ls (tupsT (lets l)), .fz .non, .un, .un]) (r2 := [.fz (.tup l), .fz (.str s), .fz (.bl true), .ls (tupsT (lets l)), .fz .non, .un, .un]) (b := .str s) (z := .val (.bl false)) (sh_sh (un_eval (g := gRep) (fa := dSh (dVar 0)) (z := .val (.str s)) rfl hs)) rfl (ne_str ho)))
  rw [seq_nx (r1 := [.fz (.tup l), .fz (.str s), .fz (.bl true), .ls (tupsT (lets l)), .fz .non, .un, .un]) (by
    unfold dIf xbLift dOr
    rw [show dNot (dBl (dSh (dIsi .bool (dSh (dVar 2))))) [.fz (.tup l), .fz (.str s), .fz (.bl true), .ls (tupsT (lets l)), .fz .non, .un, .un] = some (false, [.fz (.tup l), .fz (.str s), .fz (.bl true), .ls (tupsT (lets l)), .fz .non, .un, .un]) from rfl]
    simp only [Option.bind_some, q1, q2, Bool.false_eq_true, if_false]
    rfl)]
  rw [seq_nx (r1 := [.fz (.tup l), .fz (.str s), .fz (.bl true), .ls (tupsT (lets l)), .fz .non, .un, .un]) (by rfl)]
  have fz : ([.fz (.tup l), .fz (.str s), .fz (.bl true), .ls (tupsT (lets l)), .fz .non, .un, .un]).map T.frz = [.fz (.tup l), .fz (.str s), .fz (.bl true), .fz (.lst ((lets l).map .tup)), .fz .non, .un, .un] := by
    simp [T.frz, data_tups]
    exact ⟨rfl, rfl, rfl, rfl, rfl⟩
  have q3 := bl_of (sh_sh (op_eval (g := gNe) (fa := dSh (dVar 3)) (r := [.fz (.tup l), .fz (.str s), .fz (.bl true), .fz (.lst ((lets l).map .tup)), .fz .non, .un, .un]) (r1 := [.fz (.tup l), .fz (.str s), .fz (.bl true), .fz (.lst ((lets l).map .tup)), .fz .non, .un, .un]) (r2 := [.fz (.tup l), .fz (.str s), .fz (.bl true), .fz (.lst ((lets l).map .tup)), .fz .non, .un, .un]) (a := .lst ((lets l).map .tup)) (z := .val (.bl false)) rfl (sh_sh (call0 (v__law_letters l1 l3 hin))) (ne_let l1 l3 hin)))
  rw [seq_nx (r1 := [.fz (.tup l), .fz (.str s), .fz (.bl true), .ls (tupsT (lets l)), .fz .non, .un, .un]) (by
    unfold dIf xbLift dScalT
    rw [fz]
    unfold dOr
    rw [show dBl (dSh (dOp gNotN (dSh (dVar 4)) (dSh (dC .non)))) [.fz (.tup l), .fz (.str s), .fz (.bl true), .fz (.lst ((lets l).map .tup)), .fz .non, .un, .un] = some (false, [.fz (.tup l), .fz (.str s), .fz (.bl true), .fz (.lst ((lets l).map .tup)), .fz .non, .un, .un]) from rfl]
    simp only [Option.bind_some, Bool.false_eq_true, if_false]
    rw [show dNot (dBl (dSh (dLift (dScal (dSh (dIsi .list (dSh (dVar 3)))))))) [.fz (.tup l), .fz (.str s), .fz (.bl true), .fz (.lst ((lets l).map .tup)), .fz .non, .un, .un] = some (false, [.fz (.tup l), .fz (.str s), .fz (.bl true), .fz (.lst ((lets l).map .tup)), .fz .non, .un, .un]) from rfl]
    simp only [Option.bind_some, Bool.false_eq_true, if_false, q3]
    rfl)]
  have nums := lets_num l1 l3 hin
  have bnd := lets_bound l hin
  have n64 : (lets l).length ≤ 64 := Nat.le_trans bnd.1 (by have : 4 ^ l.length ≤ 4 ^ 3 := Nat.pow_le_pow_right (by decide) l3; omega)
  have inner : ∀ t ∈ lets l, (dBool (dAnd (dBl (dSh (dIsi .tuple (dSh (dVar 5))))) (dBl (dSh (dWith (fdCons (dSh (dComp (dItemsT (dSh (dVar 5))) (gdName 6) dYes (dMv (dCall fn__law_whole (daCons (dVar 6) daNil))) [6])) fdNil) gAll))))) [.fz (.tup l), .fz (.str s), .fz (.bl true), .fz (.lst ((lets l).map .tup)), .fz .non, .fz (.tup t), .un] = some (.sh (.bl true), [.fz (.tup l), .fz (.str s), .fz (.bl true), .fz (.lst ((lets l).map .tup)), .fz .non, .fz (.tup t), .un]) := by
    intro t ht
    obtain ⟨r', e1, u, rfl⟩ := comp_map (h := gdName 6) (e := dMv (dCall fn__law_whole (daCons (dVar 6) daNil))) (own := [6]) (P := fun r => ∃ u, r = [.fz (.tup l), .fz (.str s), .fz (.bl true), .fz (.lst ((lets l).map .tup)), .fz .non, .fz (.tup t), u]) (g := fun _ => .fz (.bl true)) t [.fz (.tup l), .fz (.str s), .fz (.bl true), .fz (.lst ((lets l).map .tup)), .fz .non, .fz (.tup t), .un] [] (fun x hx r hr => by
      obtain ⟨u, rfl⟩ := hr
      obtain ⟨n1, n2⟩ := nums t ht x hx
      have hw := v__law_whole n2
      rw [n1] at hw
      refine ⟨[.fz (.tup l), .fz (.str s), .fz (.bl true), .fz (.lst ((lets l).map .tup)), .fz .non, .fz (.tup t), .fz x], [.fz (.tup l), .fz (.str s), .fz (.bl true), .fz (.lst ((lets l).map .tup)), .fz .non, .fz (.tup t), .fz x], rfl, ?_, _, rfl⟩
      have hc := call_sh (fn := fn__law_whole) (f := daCons (dVar 6) daNil) (r := [.fz (.tup l), .fz (.str s), .fz (.bl true), .fz (.lst ((lets l).map .tup)), .fz .non, .fz (.tup t), .fz x]) (r1 := [.fz (.tup l), .fz (.str s), .fz (.bl true), .fz (.lst ((lets l).map .tup)), .fz .non, .fz (.tup t), .fz x]) (r2 := [.fz (.tup l), .fz (.str s), .fz (.bl true), .fz (.lst ((lets l).map .tup)), .fz .non, .fz (.tup t), .fz x]) (ws := [.pl 6]) rfl rfl hw rfl
      unfold dMv
      rw [hc]
      rfl) ⟨_, rfl⟩ (by have := bnd.2 t ht; simp; omega)
    have e2 : dComp (dItemsT (dSh (dVar 5))) (gdName 6) dYes (dMv (dCall fn__law_whole (daCons (dVar 6) daNil))) [6] [.fz (.tup l), .fz (.str s), .fz (.bl true), .fz (.lst ((lets l).map .tup)), .fz .non, .fz (.tup t), .un] = some (.nw (.ls (t.map fun _ => .fz (.bl true))), [.fz (.tup l), .fz (.str s), .fz (.bl true), .fz (.lst ((lets l).map .tup)), .fz .non, .fz (.tup t), .un]) := by
      unfold dComp
      rw [show dItemsT (dSh (dVar 5)) [.fz (.tup l), .fz (.str s), .fz (.bl true), .fz (.lst ((lets l).map .tup)), .fz .non, .fz (.tup t), .un] = some (t, [.fz (.tup l), .fz (.str s), .fz (.bl true), .fz (.lst ((lets l).map .tup)), .fz .non, .fz (.tup t), .un]) from rfl]
      simp only [Option.bind_some]
      rw [e1]
      rfl
    have e3 := bl_of (sh_sh (un_eval (g := gAll) (z := .val (.bl true)) (sh_nw e2 (data_trues t)) (all_trues t)))
    unfold dBool dAnd
    rw [show dBl (dSh (dIsi .tuple (dSh (dVar 5)))) [.fz (.tup l), .fz (.str s), .fz (.bl true), .fz (.lst ((lets l).map .tup)), .fz .non, .fz (.tup t), .un] = some (true, [.fz (.tup l), .fz (.str s), .fz (.bl true), .fz (.lst ((lets l).map .tup)), .fz .non, .fz (.tup t), .un]) from rfl]
    simp only [Option.bind_some, if_true, e3]
  obtain ⟨r', e1, u, rfl⟩ := comp_map (h := gdName 5) (e := (dMv (dBool (dAnd (dBl (dSh (dIsi .tuple (dSh (dVar 5))))) (dBl (dSh (dWith (fdCons (dSh (dComp (dItemsT (dSh (dVar 5))) (gdName 6) dYes (dMv (dCall fn__law_whole (daCons (dVar 6) daNil))) [6])) fdNil) gAll))))))) (own := [5]) (P := fun r => ∃ u, r = [.fz (.tup l), .fz (.str s), .fz (.bl true), .fz (.lst ((lets l).map .tup)), .fz .non, u, .un]) (g := fun _ => .fz (.bl true)) ((lets l).map .tup) [.fz (.tup l), .fz (.str s), .fz (.bl true), .fz (.lst ((lets l).map .tup)), .fz .non, .un, .un] [] (fun x hx r hr => by
      obtain ⟨u, rfl⟩ := hr
      obtain ⟨t, ht, rfl⟩ := List.mem_map.mp hx
      refine ⟨[.fz (.tup l), .fz (.str s), .fz (.bl true), .fz (.lst ((lets l).map .tup)), .fz .non, .fz (.tup t), .un], [.fz (.tup l), .fz (.str s), .fz (.bl true), .fz (.lst ((lets l).map .tup)), .fz .non, .fz (.tup t), .un], rfl, ?_, _, rfl⟩
      exact mv_sh (inner t ht)) ⟨_, rfl⟩ (by simp; omega)
  have e2 : dComp (dItemsL (dSh (dVar 3))) (gdName 5) dYes (dMv (dBool (dAnd (dBl (dSh (dIsi .tuple (dSh (dVar 5))))) (dBl (dSh (dWith (fdCons (dSh (dComp (dItemsT (dSh (dVar 5))) (gdName 6) dYes (dMv (dCall fn__law_whole (daCons (dVar 6) daNil))) [6])) fdNil) gAll)))))) [5] [.fz (.tup l), .fz (.str s), .fz (.bl true), .fz (.lst ((lets l).map .tup)), .fz .non, .un, .un] = some (.nw (.ls (((lets l).map D.tup).map fun _ => .fz (.bl true))), [.fz (.tup l), .fz (.str s), .fz (.bl true), .fz (.lst ((lets l).map .tup)), .fz .non, .un, .un]) := by
    exact comp_eval (by rfl) e1
  have e3 := bl_of (sh_sh (un_eval (g := gAll) (z := .val (.bl true)) (sh_nw e2 (data_trues _)) (all_trues _)))
  rw [seq_nx (r1 := [.fz (.tup l), .fz (.str s), .fz (.bl true), .ls (tupsT (lets l)), .fz .non, .un, .un]) (by
    unfold dIf xbLift dScalT
    rw [fz]
    unfold dNot
    rw [e3]
    rfl)]
  rw [seq_nx (r1 := [.fz (.tup l), .fz (.str s), .fz (.bl true), .ls [], .fz .non, .un, .un]) (by rfl)]
  have v2 := v_letters_of (Z := Z) (d := .tup [.int 2]) (by rfl) (by rfl)
  rw [if_pos (show isSh (.tup [.int 2]) = true by decide +kernel)] at v2
  have vd := v_letters_of (Z := Z) h1 h2
  rw [if_pos c] at vd
  have a1 : dCall (fn_letters_of Z) (daCons (dWith (fdCons (dSh (dC (.int 2))) fdNil) gTupD) daNil) [.fz (.tup l), .fz (.str s), .fz (.bl true), .ls [], .fz .non, .un, .un] = some (.nw (.ls (tupsT (lets [.int 2]))), [.fz (.tup l), .fz (.str s), .fz (.bl true), .ls [], .fz .non, .un, .un]) := by
    unfold dCall
    rw [show daCons (dWith (fdCons (dSh (dC (.int 2))) fdNil) gTupD) daNil [.fz (.tup l), .fz (.str s), .fz (.bl true), .ls [], .fz .non, .un, .un] = some ([.sh (.tup [.int 2])], [.fz (.tup l), .fz (.str s), .fz (.bl true), .ls [], .fz .non, .un, .un]) from rfl]
    simp only [Option.bind_some]
    rw [show pars [.fz (.tup l), .fz (.str s), .fz (.bl true), .ls [], .fz .non, .un, .un] [.sh (.tup [.int 2])] = some ([.fz (.tup [.int 2])], [.fz (.tup l), .fz (.str s), .fz (.bl true), .ls [], .fz .non, .un, .un]) from rfl]
    simp only [Option.bind_some, v2]
    rfl
  have l2 : (D.lst [.tup [.int 0], .tup [.int 1]]) = .lst ((lets [.int 2]).map .tup) := by rfl
  have g1 := bl_of (sh_sh (op_eval (g := gEq) (fb := (dSh (dWith (fdCons (dSh (dWith (fdCons (dSh (dC (.int 0))) fdNil) gTupD)) (fdCons (dSh (dWith (fdCons (dSh (dC (.int 1))) fdNil) gTupD)) fdNil)) gLstD))) (b := .lst ((lets [.int 2]).map .tup)) (r2 := [.fz (.tup l), .fz (.str s), .fz (.bl true), .ls [], .fz .non, .un, .un]) (z := .val (.bl true)) (sh_nw a1 (data_tups _)) rfl (eq_let (l := [.int 2]) (by simp) (by simp) (by intro x hx; simp at hx; subst hx; decide +kernel))))
  have g2 := bl_of (sh_sh (op_eval (g := gEq) (r := [.fz (.tup l), .fz (.str s), .fz (.bl true), .ls [], .fz .non, .un, .un]) (z := .val (.bl true)) (sh_nw (call0n vd) (data_tups _)) (sh_sh (call0 (v__law_letters l1 l3 hin))) (eq_let l1 l3 hin)))
  unfold dRet xLift dBool dAnd
  rw [g1]
  simp only [Option.bind_some, if_true, g2]
theorem v__law_good {K : PySem.W.Frag} {Z : Zs} (f : Fcts K Z) {d : D} (h : okd d) : fn__law_good K Z [.fz d] = some (.ret (.fz (.bl true)), [.fz d]) := by
  cases c : isSh d with
  | false => exact good_no f h c
  | true => exact good_yes f h c
end K1

set_option Elab.async false
set_option linter.all false
set_option maxRecDepth 100000
set_option maxHeartbeats 1000000
namespace K1
open PySem PySem.Spec PyProof.Rows L2 Q
def atB (d : D) : Bool := plain d && match d.py with
  | some x => x.showable && decide (x.depth ≤ 20) && decide (x.shown.length ≤ 200) && PyData.strOk x.shown
  | none => false
theorem strOk_app (a b : Str) : PyData.strOk (a ++ b) = (PyData.strOk a && PyData.strOk b) := by
  show (a.cps ++ b.cps).all _ = _
  rw [Array.all_append]
  rfl
theorem lits : PyData.strOk (", " : String) = true ∧ PyData.strOk ("" : String) = true ∧ PyData.strOk ("[" : String) = true ∧ PyData.strOk ("]" : String) = true ∧ PyData.strOk ("(" : String) = true ∧ PyData.strOk (",)" : String) = true ∧ PyData.strOk (")" : String) = true := by decide +kernel
theorem strOk_join : ∀ ts : List Str, (∀ t ∈ ts, PyData.strOk t = true) → PyData.strOk (Str.join ", " ts) = true
  | [], _ => lits.2.1
  | [x], h => h x (by simp)
  | x :: y :: r, h => by
    show PyData.strOk (x ++ ", " ++ Str.join ", " (y :: r)) = true
    rw [strOk_app, strOk_app, h x (by simp), strOk_join (y :: r) fun t ht => h t (List.mem_cons_of_mem _ ht), lits.1]
    rfl
theorem strOk_from : ∀ (ts : List Str) (k : Nat) (acc : Str), (∀ t ∈ ts, PyData.strOk t = true) → PyData.strOk acc = true → PyData.strOk (textFrom k acc ts) = true
  | [], k, acc, _, h => h
  | t :: r, k, acc, ht, h => by
    refine strOk_from r (k + 1) _ (fun u hu => ht u (List.mem_cons_of_mem _ hu)) ?_
    rw [strOk_app, strOk_app, h, ht t (by simp)]
    split <;> simp [lits]
theorem strOk_tup (ts : List Str) (h : ∀ t ∈ ts, PyData.strOk t = true) : PyData.strOk (tupleText ts) = true := by
  unfold tupleText
  rw [strOk_app, strOk_app, strOk_join ts h]
  split <;> simp [lits]
theorem strOk_lst (ts : List Str) (h : ∀ t ∈ ts, PyData.strOk t = true) : PyData.strOk (listText ts) = true := by
  unfold listText
  rw [strOk_app, strOk_from ts 0 "[" h lits.2.2.1, lits.2.2.2.1]
  rfl
theorem at_all : ∀ ds : List D, (∀ d ∈ ds, atB d = true) → ds.all plain = true ∧ ∃ xs, pyL ds = some xs ∧ PyData.showableAll xs = true ∧ PyData.depthAll xs ≤ 20 ∧ ((PyData.shownAll xs).map (·.length)).sum ≤ 200 * ds.length ∧ (PyData.shownAll xs).length = ds.length ∧ ∀ t ∈ PyData.shownAll xs, PyData.strOk t = true
  | [], _ => ⟨rfl, [], rfl, rfl, by simp [PyData.depthAll], by simp [PyData.shownAll], rfl, by simp [PyData.shownAll]⟩
  | d :: ds, h => by
    obtain ⟨p, xs, e, a1, a2, a3, a4, a5⟩ := at_all ds fun d hd => h d (List.mem_cons_of_mem _ hd)
    have hd := h d (by simp)
    unfold atB at hd
    rw [Bool.and_eq_true] at hd
    obtain ⟨pd, hd⟩ := hd
    split at hd
    · rename_i x ex
      simp only [Bool.and_eq_true, decide_eq_true_eq] at hd
      obtain ⟨⟨⟨b1, b2⟩, b3⟩, b4⟩ := hd
      refine ⟨by simp [pd, p], x :: xs, ?_, ?_, ?_, ?_, ?_, ?_⟩
      · show (d.py.bind fun x => (pyL ds).map (x :: ·)) = _
        rw [ex, e]
        rfl
      · simp [PyData.showableAll, b1, a1]
      · simp only [PyData.depthAll]
        omega
      · simp only [PyData.shownAll, List.map_cons, List.sum_cons, List.length_cons]
        omega
      · simp [PyData.shownAll, a4]
      · intro t ht
        simp only [PyData.shownAll, List.mem_cons] at ht
        rcases ht with rfl | ht
        · exact b4
        · exact a5 t ht
    · cases hd
theorem okd_tup {ds : List D} (h : ∀ d ∈ ds, atB d = true) (hl : ds.length ≤ 100) : okd (.tup ds) := by
  obtain ⟨p, xs, e, a1, a2, a3, a4, a5⟩ := at_all ds h
  refine ⟨rfl, p, .tuple xs, ?_, a1, ?_, ?_, ?_⟩
  · show (pyL ds).map PyData.tuple = _
    rw [e]
    rfl
  · simp only [PyData.depth]
    omega
  · have := tupleText_len_le (PyData.shownAll xs)
    show (tupleText (PyData.shownAll xs)).length ≤ _
    omega
  · exact strOk_tup _ a5
theorem okd_lst {ds : List D} (h : ∀ d ∈ ds, atB d = true) (hl : ds.length ≤ 100) : okd (.lst ds) := by
  obtain ⟨p, xs, e, a1, a2, a3, a4, a5⟩ := at_all ds h
  refine ⟨rfl, by first | rfl | exact p, .list xs, ?_, a1, ?_, ?_, ?_⟩
  · show (pyL ds).map PyData.list = _
    rw [e]
    rfl
  · simp only [PyData.depth]
    omega
  · have := listText_len_le (PyData.shownAll xs)
    show (listText (PyData.shownAll xs)).length ≤ _
    omega
  · exact strOk_lst _ a5
theorem at_small : ([-1, 0, 1, 2, 3, 4, 5].map fun i : Int => D.int i).all atB = true := by decide +kernel
theorem at_odd : (([.non, .str "2", .bl true, .lst [.int 2], .tup [.int 2], .int (10 ^ 21)] : List D) ++ ([0, 1, 2, 3, 4, 5, 6, 7, 8].map fun i : Int => D.int (10 ^ 28 + i))).all atB = true := by decide +kernel
theorem at_int {i : Int} (h : -1 ≤ i) (h2 : i ≤ 5) : atB (.int i) = true := by
  refine List.all_eq_true.mp at_small _ ?_
  have : i = -1 ∨ i = 0 ∨ i = 1 ∨ i = 2 ∨ i = 3 ∨ i = 4 ∨ i = 5 := by omega
  rcases this with rfl | rfl | rfl | rfl | rfl | rfl | rfl <;> simp
end K1

set_option Elab.async false
set_option linter.all false
set_option maxRecDepth 100000
set_option maxHeartbeats 1000000
namespace K1
open PySem PySem.Spec PyProof.Rows L2 Q
theorem comp_some {h : GD} {e : MD} {own : List Nat} {P : Q.Env → Prop} {G : T → Prop} : ∀ (l : List D) (r : Q.Env) (acc : List T), (∀ d ∈ l, ∀ r, P r → ∃ r1 t r2, h (wipeT r own) (.fz d) = some r1 ∧ e r1 = some (t, r2) ∧ G t ∧ P r2) → P r → acc.length + l.length ≤ 1000000 →
    ∃ ts r', compD h dYes e own l r acc = some (acc ++ ts, r') ∧ ts.length = l.length ∧ (∀ t ∈ ts, G t) ∧ P r'
  | [], r, acc, _, p, _ => ⟨[], r, by simp [compD], rfl, by simp, p⟩
  | d :: l, r, acc, hs, p, hb => by
    obtain ⟨r1, t, r2, e1, e2, g, p2⟩ := hs d List.mem_cons_self r p
    obtain ⟨ts, r', e3, l3, g3, p3⟩ := comp_some l r2 (acc ++ [t]) (fun d' hd => hs d' (List.mem_cons_of_mem _ hd)) p2 (by simp at hb ⊢; omega)
    refine ⟨t :: ts, r', ?_, by simp [l3], ?_, p3⟩
    · have hc : acc.length < 1000000 := by simp at hb; omega
      simp only [compD, e1, e2, dYes, Option.bind_some, if_true, if_pos hc]
      rw [e3]
      simp
    · intro u hu
      rcases List.mem_cons.mp hu with rfl | hu
      · exact g
      · exact g3 u hu
theorem ints_of {lo hi : Int} : ∀ ts : List T, (∀ t ∈ ts, ∃ i : Int, t = .fz (.int i) ∧ lo ≤ i ∧ i ≤ hi) → ∃ ds : List D, ts = ds.map .fz ∧ ∀ d ∈ ds, ∃ i : Int, d = .int i ∧ lo ≤ i ∧ i ≤ hi
  | [], _ => ⟨[], rfl, by simp⟩
  | t :: ts, h => by
    obtain ⟨i, rfl, hi⟩ := h t (by simp)
    obtain ⟨ds, rfl, hd⟩ := ints_of ts fun t ht => h t (List.mem_cons_of_mem _ ht)
    refine ⟨.int i :: ds, rfl, ?_⟩
    intro d hm
    rcases List.mem_cons.mp hm with rfl | hm
    · exact ⟨i, rfl, hi⟩
    · exact hd d hm
theorem take_at {a b c x y z u v : T} {n k : Int} {f : ED} (hf : f [a, b, c, .ls [.fz (.int n)], x, y, z, u, v] = some (.sh (.int k), [a, b, c, .ls [.fz (.int n)], x, y, z, u, v])) (hk : 0 < k) (hk2 : k < 1000) : dCall fn__law_take (daCons (dVar 3) (daCons f daNil)) [a, b, c, .ls [.fz (.int n)], x, y, z, u, v] = some (.sh (.int (n % k)), [a, b, c, .ls [.fz (.int (n / k))], x, y, z, u, v]) := by
  unfold dCall
  rw [show daCons (dVar 3) (daCons f daNil) [a, b, c, .ls [.fz (.int n)], x, y, z, u, v] = some ([.pl 3, .sh (.int k)], [a, b, c, .ls [.fz (.int n)], x, y, z, u, v]) by
    unfold daCons
    rw [show dVar 3 [a, b, c, .ls [.fz (.int n)], x, y, z, u, v] = some (.pl 3, [a, b, c, .ls [.fz (.int n)], x, y, z, u, v]) from rfl]
    simp only [Option.bind_some, hf]
    rfl]
  simp only [Option.bind_some]
  rw [show pars [a, b, c, .ls [.fz (.int n)], x, y, z, u, v] [.pl 3, .sh (.int k)] = some ([.ls [.fz (.int n)], .fz (.int k)], [a, b, c, .un, x, y, z, u, v]) from rfl]
  simp only [Option.bind_some, v__law_take hk hk2]
  rfl
theorem data_fz (ds : List D) : T.data (.ls (ds.map .fz)) = some (.lst ds) := by
  unfold T.data
  rw [dataL_fz]
  rfl
/-- a tuple of drawn numbers -/
theorem draw {a b c x y z u : T} {n k lo : Int} {f : FDs} {e : ED} (hf : ∀ n, f [a, b, c, .ls [.fz (.int n)], x, y, z, u, .un] = some ([.int (lo + n % k)], [a, b, c, .ls [.fz (.int (n / k))], x, y, z, u, .un])) (hk : 0 < k) (hk2 : k < 100) (hlo : 0 ≤ lo) (hlo2 : lo ≤ 1) {p q : Int} (he : ∀ n w, ∃ i n', e [a, b, c, .ls [.fz (.int n)], x, y, z, u, w] = some (.sh (.int i), [a, b, c, .ls [.fz (.int n')], x, y, z, u, w]) ∧ p ≤ i ∧ i ≤ q) :
    ∃ ds n', dWith (fdCons (dSh (dComp (dRange1 f) (gdName 8) dYes (dMv e) [8])) fdNil) gTuple [a, b, c, .ls [.fz (.int n)], x, y, z, u, .un] = some (.sh (.tup ds), [a, b, c, .ls [.fz (.int n')], x, y, z, u, .un]) ∧ (∀ d ∈ ds, ∃ i : Int, d = .int i ∧ p ≤ i ∧ i ≤ q) ∧ (ds.length : Int) ≤ lo + k - 1 := by
  have b1 := Int.emod_nonneg n (show k ≠ 0 by omega)
  have b2 := Int.emod_lt_of_pos n hk
  have hr : dRange1 f [a, b, c, .ls [.fz (.int n)], x, y, z, u, .un] = some (upto 0 (lo + n % k).toNat, [a, b, c, .ls [.fz (.int (n / k))], x, y, z, u, .un]) := by
    unfold dRange1
    rw [hf n]
    exact if_pos ⟨by omega, by omega⟩
  obtain ⟨ts, r', e1, l1, g1, n', w, rfl⟩ := comp_some (h := gdName 8) (e := dMv e) (own := [8]) (P := fun r => ∃ n w, r = [a, b, c, .ls [.fz (.int n)], x, y, z, u, w]) (G := fun t => ∃ i : Int, t = .fz (.int i) ∧ p ≤ i ∧ i ≤ q) (upto 0 (lo + n % k).toNat) [a, b, c, .ls [.fz (.int (n / k))], x, y, z, u, .un] [] (fun d hd r hr => by
    obtain ⟨n, w, rfl⟩ := hr
    obtain ⟨i, n', e2, hi⟩ := he n (.fz d)
    exact ⟨_, _, _, rfl, mv_sh e2, ⟨i, rfl, hi⟩, n', .fz d, rfl⟩) ⟨_, _, rfl⟩ (by rw [upto_len]; simp; omega)
  obtain ⟨ds, rfl, hd⟩ := ints_of ts g1
  refine ⟨ds, n', ?_, hd, ?_⟩
  · exact un_eval (g := gTuple) (z := .newT ds) (sh_nw (comp_eval hr e1) (data_fz ds)) rfl
  · rw [upto_len, List.length_map] at l1
    omega
end K1

set_option Elab.async false
set_option linter.all false
set_option maxRecDepth 100000
set_option maxHeartbeats 1000000
namespace K1
open PySem PySem.Spec PyProof.Rows L2 Q
def bodyL : SD := (dSeq (dAsg (xLift (dWith (fdCons (dSh (dCall fn__law_cell (daCons (dVar 0) (daCons (dVar 2) daNil)))) fdNil) gLstD)) (gdName 3))
    (dSeq (dAsg (xLift (dWith (fdCons (dSh (dComp (dRange1 (fdCons (dSh (dCall fn__law_take (daCons (dVar 3) (daCons (dC (.int 5)) daNil)))) fdNil)) (gdName 8) dYes (dMv (dOp gSubI (dSh (dCall fn__law_take (daCons (dVar 3) (daCons (dC (.int 7)) daNil)))) (dSh (dC (.int 1))))) [8])) fdNil) gTuple)) (gdName 4))
    (dSeq (dAsg (xLift (dCall fn__law_take (daCons (dVar 3) (daCons (dWith (fdCons (dSh (dWith (fdCons (dSh (dVar 4)) fdNil) gLen)) (fdCons (dSh (dC (.int 1))) fdNil)) gMax2) daNil)))) (gdName 5))
    (dSeq (dAsg (xLift (dOp gIx (dSh (dWith (fdCons (dSh (dC .non)) (fdCons (dSh (dC (.str "2"))) (fdCons (dSh (dC (.bl true))) (fdCons (dSh (dWith (fdCons (dSh (dC (.int 2))) fdNil) gLstD)) (fdCons (dSh (dWith (fdCons (dSh (dC (.int 2))) fdNil) gTupD)) (fdCons (dSh (dOp gAdd (dSh (dOp gPow (dSh (dC (.int 10))) (dSh (dC (.int 28))))) (dSh (dCall fn__law_take (daCons (dVar 3) (daCons (dC (.int 9)) daNil)))))) (fdCons (dSh (dOp gPow (dSh (dC (.int 10))) (dSh (dC (.int 21))))) fdNil))))))) gLstD)) (dSh (dCall fn__law_take (daCons (dVar 3) (daCons (dC (.int 7)) daNil)))))) (gdName 6))
    (dSeq (dAsg (xLift (dOp gCatL (dSh (dVar 1)) (dSh (dWith (fdCons (dSh (dVar 4)) (fdCons (dSh (dWith (fdCons (dSh (dVar 4)) fdNil) gList)) (fdCons (dSh (dOp gCatT (dSh (dOp gCatT (dSh (dSl gSlT (dSh (dVar 4)) pNo (pAt (dSh (dVar 5))))) (dSh (dWith (fdCons (dSh (dVar 6)) fdNil) gTupD)))) (dSh (dSl gSlT (dSh (dVar 4)) (pAt (dSh (dOp gAdd (dSh (dVar 5)) (dSh (dC (.int 1)))))) pNo)))) fdNil))) gLstD)))) (gdName 1))
    (dDrop (xLift (dAppend 1 (dMv (dWith (fdCons (dSh (dComp (dRange1 (fdCons (dSh (dOp gAdd (dSh (dC (.int 1))) (dSh (dCall fn__law_take (daCons (dVar 3) (daCons (dC (.int 3)) daNil)))))) fdNil)) (gdName 8) dYes (dMv (dOp gAdd (dSh (dC (.int 1))) (dSh (dCall fn__law_take (daCons (dVar 3) (daCons (dC (.int 4)) daNil)))))) [8])) fdNil) gTuple))))))))))
theorem fdc {f : FD} {g : FDs} {r r1 r2 : Q.Env} {a : D} {as : List D} (h1 : f r = some (a, r1)) (h2 : g r1 = some (as, r2)) : fdCons f g r = some (a :: as, r2) := by
  unfold fdCons
  rw [h1]
  simp only [Option.bind_some, h2]
theorem withe {F : FDs} {g : List D → Option Rs} {r r1 : Q.Env} {as : List D} {z : Rs} (h1 : F r = some (as, r1)) (h2 : g as = some z) : dWith F g r = some (z.w, r1) := by
  unfold dWith
  rw [h1]
  simp only [Option.bind_some, h2]
theorem sh_ls {a b c x y z u v : T} {ds : List D} : dSh (dVar 1) [a, .ls (ds.map .fz), b, c, x, y, z, u, v] = some (.lst ds, [a, .fz (.lst ds), b, c, x, y, z, u, v]) := by
  unfold dSh
  rw [show dVar 1 [a, .ls (ds.map .fz), b, c, x, y, z, u, v] = some (.pl 1, [a, .ls (ds.map .fz), b, c, x, y, z, u, v]) from rfl]
  show ((some (T.ls (ds.map T.fz))).bind fun t => t.data.bind _) = _
  simp only [Option.bind_some, data_fz]
  rfl
theorem cut_mem {l : List D} {lo hi : Option Int} {d : D} (h : d ∈ Q.cutD l lo hi) : d ∈ l := by
  unfold Q.cutD at h
  exact List.mem_of_mem_drop (List.mem_of_mem_take h)
theorem cut_len (l : List D) (lo hi : Option Int) : (Q.cutD l lo hi).length ≤ l.length := by
  unfold Q.cutD
  rw [List.length_take, List.length_drop]
  omega
theorem odd_at {j : Int} (h0 : 0 ≤ j) (h1 : j < 9) : atB (.int (10 ^ 28 + j)) = true := by
  refine List.all_eq_true.mp at_odd _ ?_
  have : j = 0 ∨ j = 1 ∨ j = 2 ∨ j = 3 ∨ j = 4 ∨ j = 5 ∨ j = 6 ∨ j = 7 ∨ j = 8 := by omega
  rcases this with rfl | rfl | rfl | rfl | rfl | rfl | rfl | rfl | rfl <;> simp
theorem pick {i j : Int} (h0 : 0 ≤ i) (h1 : i < 7) (j0 : 0 ≤ j) (j1 : j < 9) : ∃ o, gIx [.lst [.non, .str "2", .bl true, .lst [.int 2], .tup [.int 2], .int (10 ^ 28 + j), .int (10 ^ 21)], .int i] = some (.val o) ∧ atB o = true := by
  have : i = 0 ∨ i = 1 ∨ i = 2 ∨ i = 3 ∨ i = 4 ∨ i = 5 ∨ i = 6 := by omega
  rcases this with rfl | rfl | rfl | rfl | rfl | rfl | rfl
  · exact ⟨_, rfl, List.all_eq_true.mp at_odd _ (by simp)⟩
  · exact ⟨_, rfl, List.all_eq_true.mp at_odd _ (by simp)⟩
  · exact ⟨_, rfl, List.all_eq_true.mp at_odd _ (by simp)⟩
  · exact ⟨_, rfl, List.all_eq_true.mp at_odd _ (by simp)⟩
  · exact ⟨_, rfl, List.all_eq_true.mp at_odd _ (by simp)⟩
  · exact ⟨_, rfl, odd_at j0 j1⟩
  · exact ⟨_, rfl, List.all_eq_true.mp at_odd _ (by simp)⟩
theorem turn {ns : List Int} {k : Int} (h0 : 0 ≤ k) (h1 : k < 64) {ds : List D} (hd : ∀ d ∈ ds, okd d) (hl : ds.length ≤ 1000) {u3 u4 u5 u6 : T} : ∃ (ds' : List D) (t3 t4 t5 t6 : T), bodyL [.fz (.scr ns), .ls (ds.map .fz), .fz (.int k), u3, u4, u5, u6, .un, .un] = some (.nx [.fz (.scr ns), .ls (ds'.map .fz), .fz (.int k), t3, t4, t5, t6, .un, .un]) ∧ (∀ d ∈ ds', okd d) ∧ ds'.length = ds.length + 4 := by
  unfold bodyL
  obtain ⟨c, hc⟩ := v__law_cell (ns := ns) h0 h1
  have a1 := asg_nw (i := 3) (un_eval (g := gLstD) (z := .newL [.int c]) (sh_sh (call_sh (f := daCons (dVar 0) (daCons (dVar 2) daNil)) (r := [.fz (.scr ns), .ls (ds.map .fz), .fz (.int k), u3, u4, u5, u6, .un, .un]) (r1 := [.fz (.scr ns), .ls (ds.map .fz), .fz (.int k), u3, u4, u5, u6, .un, .un]) (r2 := [.fz (.scr ns), .ls (ds.map .fz), .fz (.int k), u3, u4, u5, u6, .un, .un]) (ws := [.pl 0, .pl 2]) rfl rfl hc rfl)) rfl)
  rw [seq_nx (r1 := [.fz (.scr ns), .ls (ds.map .fz), .fz (.int k), .ls [.fz (.int c)], u4, u5, u6, .un, .un]) a1]
  obtain ⟨sh, n2, e2, s1, s2⟩ := draw (a := .fz (.scr ns)) (b := .ls (ds.map .fz)) (c := .fz (.int k)) (x := u4) (y := u5) (z := u6) (u := .un) (n := c) (k := 5) (lo := 0) (p := -1) (q := 5) (f := fdCons (dSh (dCall fn__law_take (daCons (dVar 3) (daCons (dC (.int 5)) daNil)))) fdNil) (e := dOp gSubI (dSh (dCall fn__law_take (daCons (dVar 3) (daCons (dC (.int 7)) daNil)))) (dSh (dC (.int 1)))) (fun n => by rw [Int.zero_add]; exact fdc (sh_sh (take_at rfl (by decide) (by decide))) rfl) (by decide) (by decide) (by decide) (by decide) (fun n w => ⟨n % 7 - 1, n / 7, op_eval (g := gSubI) (z := .val (.int (n % 7 - 1))) (sh_sh (take_at rfl (by decide) (by decide))) rfl rfl, by omega, by omega⟩)
  rw [seq_nx (r1 := [.fz (.scr ns), .ls (ds.map .fz), .fz (.int k), .ls [.fz (.int n2)], .fz (.tup sh), u5, u6, .un, .un]) (asg_sh e2)]
  have hm : ∃ m : Int, 0 < m ∧ m < 1000 ∧ (dWith (fdCons (dSh (dWith (fdCons (dSh (dVar 4)) fdNil) gLen)) (fdCons (dSh (dC (.int 1))) fdNil)) gMax2) [.fz (.scr ns), .ls (ds.map .fz), .fz (.int k), .ls [.fz (.int n2)], .fz (.tup sh), u5, u6, .un, .un] = some (.sh (.int m), [.fz (.scr ns), .ls (ds.map .fz), .fz (.int k), .ls [.fz (.int n2)], .fz (.tup sh), u5, u6, .un, .un]) := by
    refine ⟨if (1 : Int) > sh.length then 1 else sh.length, ?_, ?_, rfl⟩ <;> split <;> omega
  obtain ⟨m, m0, m1, hm⟩ := hm
  rw [seq_nx (r1 := [.fz (.scr ns), .ls (ds.map .fz), .fz (.int k), .ls [.fz (.int (n2 / m))], .fz (.tup sh), .fz (.int (n2 % m)), u6, .un, .un]) (asg_sh (take_at hm m0 m1))]
  have pw : CPow 10 28 := ⟨by decide, by decide, by decide⟩
  have pw2 : CPow 10 21 := ⟨by decide, by decide, by decide⟩
  have e28 := sh_sh (op_eval (g := gPow) (fa := dSh (dC (.int 10))) (fb := dSh (dC (.int 28))) (r := [.fz (.scr ns), .ls (ds.map .fz), .fz (.int k), .ls [.fz (.int (n2 / m))], .fz (.tup sh), .fz (.int (n2 % m)), u6, .un, .un]) (z := .val (.int (10 ^ 28))) rfl rfl (if_pos (e := none) pw))
  have e21 := sh_sh (op_eval (g := gPow) (fa := dSh (dC (.int 10))) (fb := dSh (dC (.int 21))) (r := [.fz (.scr ns), .ls (ds.map .fz), .fz (.int k), .ls [.fz (.int (n2 / m / 9))], .fz (.tup sh), .fz (.int (n2 % m)), u6, .un, .un]) (z := .val (.int (10 ^ 21))) rfl rfl (if_pos (e := none) pw2))
  have t9 := sh_sh (op_eval (g := gAdd) (z := .val (.int (10 ^ 28 + n2 / m % 9))) e28 (sh_sh (take_at (f := dC (.int 9)) rfl (by decide) (by decide))) rfl)
  have sev := sh_nw (withe (g := gLstD) (z := .newL [.non, .str "2", .bl true, .lst [.int 2], .tup [.int 2], .int (10 ^ 28 + n2 / m % 9), .int (10 ^ 21)]) (fdc (f := dSh (dC .non)) rfl (fdc (f := dSh (dC (.str "2"))) rfl (fdc (f := dSh (dC (.bl true))) rfl (fdc (f := dSh (dWith (fdCons (dSh (dC (.int 2))) fdNil) gLstD)) (a := .lst [.int 2]) rfl (fdc (f := dSh (dWith (fdCons (dSh (dC (.int 2))) fdNil) gTupD)) (a := .tup [.int 2]) rfl (fdc t9 (fdc (g := fdNil) e21 rfl))))))) rfl) (data_fz [.non, .str "2", .bl true, .lst [.int 2], .tup [.int 2], .int (10 ^ 28 + n2 / m % 9), .int (10 ^ 21)])
  obtain ⟨o, ho, oa⟩ := pick (i := n2 / m / 9 % 7) (j := n2 / m % 9) (by omega) (by omega) (by omega) (by omega)
  rw [seq_nx (r1 := [.fz (.scr ns), .ls (ds.map .fz), .fz (.int k), .ls [.fz (.int (n2 / m / 9 / 7))], .fz (.tup sh), .fz (.int (n2 % m)), .fz o, .un, .un]) (asg_sh (op_eval (g := gIx) (z := .val o) sev (sh_sh (take_at (f := dC (.int 7)) rfl (by decide) (by decide))) ho))]
  have ln : sh.length ≤ 4 := by omega
  have c1 := cut_len sh none (some (n2 % m))
  have c2 := cut_len sh (some (n2 % m + 1)) none
  have k1 : gCatT [.tup (Q.cutD sh none (some (n2 % m))), .tup [o]] = some (.newT (Q.cutD sh none (some (n2 % m)) ++ [o])) := if_pos (by simp; omega)
  have k2 : gCatT [.tup (Q.cutD sh none (some (n2 % m)) ++ [o]), .tup (Q.cutD sh (some (n2 % m + 1)) none)] = some (.newT (Q.cutD sh none (some (n2 % m)) ++ [o] ++ Q.cutD sh (some (n2 % m + 1)) none)) := if_pos (by simp; omega)
  have k3 : gCatL [.lst ds, .lst [D.tup sh, D.lst sh, D.tup (Q.cutD sh none (some (n2 % m)) ++ [o] ++ Q.cutD sh (some (n2 % m + 1)) none)]] = some (.newL (ds ++ [D.tup sh, D.lst sh, D.tup (Q.cutD sh none (some (n2 % m)) ++ [o] ++ Q.cutD sh (some (n2 % m + 1)) none)])) := if_pos (by simp; omega)
  have w1 := sh_sh (op_eval (g := gCatT) (fa := dSh (dSl gSlT (dSh (dVar 4)) pNo (pAt (dSh (dVar 5))))) (fb := dSh (dWith (fdCons (dSh (dVar 6)) fdNil) gTupD)) (r := [.fz (.scr ns), .fz (.lst ds), .fz (.int k), .ls [.fz (.int (n2 / m / 9 / 7))], .fz (.tup sh), .fz (.int (n2 % m)), .fz o, .un, .un]) (r1 := [.fz (.scr ns), .fz (.lst ds), .fz (.int k), .ls [.fz (.int (n2 / m / 9 / 7))], .fz (.tup sh), .fz (.int (n2 % m)), .fz o, .un, .un]) (r2 := [.fz (.scr ns), .fz (.lst ds), .fz (.int k), .ls [.fz (.int (n2 / m / 9 / 7))], .fz (.tup sh), .fz (.int (n2 % m)), .fz o, .un, .un]) rfl rfl k1)
  have w2 := sh_sh (op_eval (g := gCatT) (fb := dSh (dSl gSlT (dSh (dVar 4)) (pAt (dSh (dOp gAdd (dSh (dVar 5)) (dSh (dC (.int 1)))))) pNo)) (r2 := [.fz (.scr ns), .fz (.lst ds), .fz (.int k), .ls [.fz (.int (n2 / m / 9 / 7))], .fz (.tup sh), .fz (.int (n2 % m)), .fz o, .un, .un]) w1 rfl k2)
  have w3 := sh_nw (withe (g := gLstD) (z := .newL [D.tup sh, D.lst sh, D.tup (Q.cutD sh none (some (n2 % m)) ++ [o] ++ Q.cutD sh (some (n2 % m + 1)) none)]) (fdc (f := dSh (dVar 4)) (a := .tup sh) (r := [.fz (.scr ns), .fz (.lst ds), .fz (.int k), .ls [.fz (.int (n2 / m / 9 / 7))], .fz (.tup sh), .fz (.int (n2 % m)), .fz o, .un, .un]) (r1 := [.fz (.scr ns), .fz (.lst ds), .fz (.int k), .ls [.fz (.int (n2 / m / 9 / 7))], .fz (.tup sh), .fz (.int (n2 % m)), .fz o, .un, .un]) rfl (fdc (f := dSh (dWith (fdCons (dSh (dVar 4)) fdNil) gList)) (a := .lst sh) (r1 := [.fz (.scr ns), .fz (.lst ds), .fz (.int k), .ls [.fz (.int (n2 / m / 9 / 7))], .fz (.tup sh), .fz (.int (n2 % m)), .fz o, .un, .un]) (sh_nw (un_eval (g := gList) (fa := dSh (dVar 4)) (a := .tup sh) (z := .newL sh) rfl rfl) (data_fz sh)) (fdc (g := fdNil) w2 rfl))) rfl) (data_fz [D.tup sh, D.lst sh, D.tup (Q.cutD sh none (some (n2 % m)) ++ [o] ++ Q.cutD sh (some (n2 % m + 1)) none)])
  have a5 := asg_nw (i := 1) (op_eval (g := gCatL) (r := [.fz (.scr ns), .ls (ds.map .fz), .fz (.int k), .ls [.fz (.int (n2 / m / 9 / 7))], .fz (.tup sh), .fz (.int (n2 % m)), .fz o, .un, .un]) (z := .newL (ds ++ [D.tup sh, D.lst sh, D.tup (Q.cutD sh none (some (n2 % m)) ++ [o] ++ Q.cutD sh (some (n2 % m + 1)) none)])) sh_ls w3 k3)
  rw [seq_nx (r1 := [.fz (.scr ns), .ls ((ds ++ [D.tup sh, D.lst sh, D.tup (Q.cutD sh none (some (n2 % m)) ++ [o] ++ Q.cutD sh (some (n2 % m + 1)) none)]).map .fz), .fz (.int k), .ls [.fz (.int (n2 / m / 9 / 7))], .fz (.tup sh), .fz (.int (n2 % m)), .fz o, .un, .un]) a5]
  obtain ⟨sk, n6, e6, s3, s4⟩ := draw (a := .fz (.scr ns)) (b := .ls ((ds ++ [D.tup sh, D.lst sh, D.tup (Q.cutD sh none (some (n2 % m)) ++ [o] ++ Q.cutD sh (some (n2 % m + 1)) none)]).map .fz)) (c := .fz (.int k)) (x := .fz (.tup sh)) (y := .fz (.int (n2 % m))) (z := .fz o) (u := .un) (n := n2 / m / 9 / 7) (k := 3) (lo := 1) (p := 1) (q := 4) (f := fdCons (dSh (dOp gAdd (dSh (dC (.int 1))) (dSh (dCall fn__law_take (daCons (dVar 3) (daCons (dC (.int 3)) daNil)))))) fdNil) (e := dOp gAdd (dSh (dC (.int 1))) (dSh (dCall fn__law_take (daCons (dVar 3) (daCons (dC (.int 4)) daNil))))) (fun n => fdc (sh_sh (op_eval (g := gAdd) (z := .val (.int (1 + n % 3))) rfl (sh_sh (take_at rfl (by decide) (by decide))) rfl)) rfl) (by decide) (by decide) (by decide) (by decide) (fun n w => ⟨1 + n % 4, n / 4, op_eval (g := gAdd) (z := .val (.int (1 + n % 4))) rfl (sh_sh (take_at rfl (by decide) (by decide))) rfl, by omega, by omega⟩)
  refine ⟨ds ++ [D.tup sh, D.lst sh, D.tup (Q.cutD sh none (some (n2 % m)) ++ [o] ++ Q.cutD sh (some (n2 % m + 1)) none)] ++ [.tup sk], .ls [.fz (.int n6)], .fz (.tup sh), .fz (.int (n2 % m)), .fz o, ?_, ?_, by simp⟩
  · have ap : dAppend 1 (dMv (dWith (fdCons (dSh (dComp (dRange1 (fdCons (dSh (dOp gAdd (dSh (dC (.int 1))) (dSh (dCall fn__law_take (daCons (dVar 3) (daCons (dC (.int 3)) daNil)))))) fdNil)) (gdName 8) dYes (dMv (dOp gAdd (dSh (dC (.int 1))) (dSh (dCall fn__law_take (daCons (dVar 3) (daCons (dC (.int 4)) daNil)))))) [8])) fdNil) gTuple)) [.fz (.scr ns), .ls ((ds ++ [D.tup sh, D.lst sh, D.tup (Q.cutD sh none (some (n2 % m)) ++ [o] ++ Q.cutD sh (some (n2 % m + 1)) none)]).map .fz), .fz (.int k), .ls [.fz (.int (n2 / m / 9 / 7))], .fz (.tup sh), .fz (.int (n2 % m)), .fz o, .un, .un] = some (.sh .non, [.fz (.scr ns), .ls ((ds ++ [D.tup sh, D.lst sh, D.tup (Q.cutD sh none (some (n2 % m)) ++ [o] ++ Q.cutD sh (some (n2 % m + 1)) none)]).map .fz ++ [.fz (.tup sk)]), .fz (.int k), .ls [.fz (.int n6)], .fz (.tup sh), .fz (.int (n2 % m)), .fz o, .un, .un]) := by
      unfold dAppend
      refine (if_pos (by rfl)).trans ?_
      rw [mv_sh e6]
      exact if_pos (by simp; omega)
    unfold dDrop xLift
    rw [ap, List.map_append (l₁ := ds ++ [D.tup sh, D.lst sh, D.tup (Q.cutD sh none (some (n2 % m)) ++ [o] ++ Q.cutD sh (some (n2 % m + 1)) none)])]
    rfl
  · have okA : ∀ d ∈ sh, atB d = true := fun d hm => by obtain ⟨i, rfl, i0, i1⟩ := s1 d hm; exact at_int i0 i1
    intro d hm
    simp only [List.mem_append, List.mem_cons, List.not_mem_nil, or_false] at hm
    rcases hm with (hm | rfl | rfl | rfl) | rfl
    · exact hd d hm
    · exact okd_tup okA (by omega)
    · exact okd_lst okA (by omega)
    · refine okd_tup (fun d hm => ?_) (by simp; omega)
      simp only [List.mem_append, List.mem_cons, List.not_mem_nil, or_false] at hm
      rcases hm with (hm | rfl) | hm
      · exact okA d (cut_mem hm)
      · exact oa
      · exact okA d (cut_mem hm)
    · exact okd_tup (fun d hm => by obtain ⟨i, rfl, i0, i1⟩ := s3 d hm; exact at_int (by omega) (by omega)) (by omega)
end K1

set_option Elab.async false
set_option linter.all false
set_option maxRecDepth 100000
set_option maxHeartbeats 1000000
namespace K1
open PySem PySem.Spec PyProof.Rows L2 Q
def okB (d : D) : Bool := plain d && elsPlain d && match d.py with
  | some x => x.showable && decide (x.depth ≤ 100) && decide (x.shown.length ≤ 1000000) && PyData.strOk x.shown
  | none => false
theorem okB_ok {d : D} (h : okB d = true) : okd d := by
  unfold okB at h
  simp only [Bool.and_eq_true] at h
  obtain ⟨⟨h1, h2⟩, h3⟩ := h
  split at h3
  · rename_i x e
    simp only [Bool.and_eq_true, decide_eq_true_eq] at h3
    exact ⟨h1, h2, x, e, h3.1.1.1, h3.1.1.2, h3.1.2, h3.2⟩
  · cases h3
def lA : List D := [.non, .bl true, .int 0, .str "", .str "22", .tup [], .lst [], .lst [.int 2], .tup [.int 3, .int 3, .int 3], .tup [.int 4, .int 4, .int 1], .tup [.int 4, .int 4, .int 2], .tup [.int 4, .int 3, .int 2], .tup [.int 4, .int 3, .int 3]]
def lB : List D := [.tup [.int 3, .int 3, .int 4], .tup [.tup [.int 2]]]
def lC : List D := [.tup [.int 2, .bl true], .tup [.int 1], .tup [.bl true], .tup [.bl false], .tup [.int (10 ^ 29)], .tup [.int 2, .int 2, .int 2, .int 1], .tup [.int 27], .tup [.int 5, .int 5], .tup [.int 2, .int 0], .tup [.int 4, .int (0 - 4)]]
theorem base_ok : (lA ++ lB ++ lC).all okB = true := by decide +kernel
theorem v_law {K : PySem.W.Frag} {Z : Zs} (f : Fcts K Z) (ns : List Int) : fn_law K Z [.fz (.scr ns)] = some (.ret (.fz (.bl true)), [.fz (.scr ns)]) := by
  have s1 : ∃ r, b_law K Z [.fz (.scr ns), .un, .un, .un, .un, .un, .un, .un, .un] = some (.rt (.sh (.bl true)) (.fz (.scr ns) :: r)) := by
    unfold b_law
    rw [seq_nx (r1 := [.fz (.scr ns), .ls (lA.map .fz), .un, .un, .un, .un, .un, .un, .un]) (by rfl)]
    rw [seq_nx (r1 := [.fz (.scr ns), .ls ((lA ++ lB).map .fz), .un, .un, .un, .un, .un, .un, .un]) (asg_nw (op_eval (g := gCatL) (b := .lst lB) (r2 := [.fz (.scr ns), .fz (.lst lA), .un, .un, .un, .un, .un, .un, .un]) (z := .newL (lA ++ lB)) sh_ls rfl rfl))]
    have pw : CPow 10 29 := ⟨by decide, by decide, by decide⟩
    have e29 := sh_sh (op_eval (g := gPow) (fa := dSh (dC (.int 10))) (fb := dSh (dC (.int 29))) (r := [.fz (.scr ns), .fz (.lst (lA ++ lB)), .un, .un, .un, .un, .un, .un, .un]) (z := .val (.int (10 ^ 29))) rfl rfl (if_pos (e := none) pw))
    have t29 := sh_sh (withe (g := gTupD) (z := .newT [.int (10 ^ 29)]) (fdc (g := fdNil) e29 rfl) rfl)
    have hC := withe (g := gLstD) (z := .newL lC) (fdc (f := dSh (dWith (fdCons (dSh (dC (.int 2))) (fdCons (dSh (dC (.bl true))) fdNil)) gTupD)) (a := .tup [.int 2, .bl true]) rfl (fdc (f := dSh (dWith (fdCons (dSh (dC (.int 1))) fdNil) gTupD)) (a := .tup [.int 1]) rfl (fdc (f := dSh (dWith (fdCons (dSh (dC (.bl true))) fdNil) gTupD)) (a := .tup [.bl true]) rfl (fdc (f := dSh (dWith (fdCons (dSh (dC (.bl false))) fdNil) gTupD)) (a := .tup [.bl false]) rfl (fdc t29 (as := [.tup [.int 2, .int 2, .int 2, .int 1], .tup [.int 27], .tup [.int 5, .int 5], .tup [.int 2, .int 0], .tup [.int 4, .int (0 - 4)]]) (g := (fdCons (dSh (dWith (fdCons (dSh (dC (.int 2))) (fdCons (dSh (dC (.int 2))) (fdCons (dSh (dC (.int 2))) (fdCons (dSh (dC (.int 1))) fdNil)))) gTupD)) (fdCons (dSh (dWith (fdCons (dSh (dC (.int 27))) fdNil) gTupD)) (fdCons (dSh (dWith (fdCons (dSh (dC (.int 5))) (fdCons (dSh (dC (.int 5))) fdNil)) gTupD)) (fdCons (dSh (dWith (fdCons (dSh (dC (.int 2))) (fdCons (dSh (dC (.int 0))) fdNil)) gTupD)) (fdCons (dSh (dWith (fdCons (dSh (dC (.int 4))) (fdCons (dSh (dOp gSubI (dSh (dC (.int 0))) (dSh (dC (.int 4))))) fdNil)) gTupD)) fdNil)))))) rfl))))) rfl
    rw [seq_nx (r1 := [.fz (.scr ns), .ls ((lA ++ lB ++ lC).map .fz), .un, .un, .un, .un, .un, .un, .un]) (asg_nw (op_eval (g := gCatL) (b := .lst lC) (r2 := [.fz (.scr ns), .fz (.lst (lA ++ lB)), .un, .un, .un, .un, .un, .un, .un]) (z := .newL (lA ++ lB ++ lC)) sh_ls (sh_nw hC (data_fz lC)) rfl))]
    obtain ⟨r', e1, ds, t2, t3, t4, t5, t6, rfl, hd, hl⟩ := loop_all (h := gdName 2) (body := bodyL) (st := fun (n : Nat) r => ∃ (ds : List D) (t2 t3 t4 t5 t6 : T), r = [.fz (.scr ns), .ls (ds.map .fz), t2, t3, t4, t5, t6, .un, .un] ∧ (∀ d ∈ ds, okd d) ∧ ds.length = 25 + 4 * n) (f := fun n _ => n + 1) (a0 := 0) (l := upto 0 12) (r := [.fz (.scr ns), .ls ((lA ++ lB ++ lC).map .fz), .un, .un, .un, .un, .un, .un, .un])
      (fun pre d post eu r hr => by
        have cnt : ∀ (q : List D) (n : Nat), q.foldl (fun n _ => n + 1) n = n + q.length := by
          intro q
          induction q with
          | nil => intro n; rfl
          | cons a q ih => intro n; rw [List.foldl_cons, ih, List.length_cons]; omega
        rw [cnt, Nat.zero_add] at hr ⊢
        obtain ⟨ds, t2, t3, t4, t5, t6, rfl, hd, hl⟩ := hr
        have hlen : pre.length < 12 := by
          have := congrArg List.length eu
          rw [upto_len] at this
          simp at this
          omega
        have hdd : d = .int pre.length := by
          have := congrArg (fun l => l[pre.length]?) eu
          simp [upto, hlen] at this
          exact this.symm
        subst hdd
        obtain ⟨ds', s3, s4, s5, s6, e, hd', hl'⟩ := turn (ns := ns) (k := pre.length) (by omega) (by omega) hd (by omega) (u3 := t3) (u4 := t4) (u5 := t5) (u6 := t6)
        exact ⟨_, _, rfl, e, ds', _, s3, s4, s5, s6, rfl, hd', by omega⟩) ⟨lA ++ lB ++ lC, _, _, _, _, _, rfl, fun d hd => okB_ok (List.all_eq_true.mp base_ok d hd), rfl⟩
    unfold bodyL at e1
    rw [seq_nx (for_nx (l := upto 0 12) (r1 := [.fz (.scr ns), .ls ((lA ++ lB ++ lC).map .fz), .un, .un, .un, .un, .un, .un, .un]) (by rfl) e1)]
    have hlen : ds.length ≤ 1000 := by
      rw [hl]
      have : (upto 0 12).foldl (fun n _ => n + 1) 0 = 12 := by rfl
      omega
    obtain ⟨r2, e2, w, rfl⟩ := comp_map (h := gdName 7) (e := dMv (dCall (fn__law_good K Z) (daCons (dVar 7) daNil))) (own := [7]) (P := fun r => ∃ w, r = [.fz (.scr ns), .fz (.lst ds), t2, t3, t4, t5, t6, w, .un]) (g := fun _ => .fz (.bl true)) ds [.fz (.scr ns), .fz (.lst ds), t2, t3, t4, t5, t6, .un, .un] [] (fun d hm r hr => by
      obtain ⟨w, rfl⟩ := hr
      refine ⟨[.fz (.scr ns), .fz (.lst ds), t2, t3, t4, t5, t6, .fz d, .un], [.fz (.scr ns), .fz (.lst ds), t2, t3, t4, t5, t6, .fz d, .un], rfl, ?_, _, rfl⟩
      exact mv_sh (call_sh (ws := [.pl 7]) rfl rfl (v__law_good f (hd d hm)) rfl)) ⟨_, rfl⟩ (by simp; omega)
    have hi : dItemsL (dSh (dVar 1)) [.fz (.scr ns), .ls (ds.map .fz), t2, t3, t4, t5, t6, .un, .un] = some (ds, [.fz (.scr ns), .fz (.lst ds), t2, t3, t4, t5, t6, .un, .un]) := by
      unfold dItemsL
      rw [sh_ls]
      rfl
    have e3 := un_eval (g := gAll) (z := .val (.bl true)) (sh_nw (comp_eval hi e2) (data_trues ds)) (all_trues ds)
    refine ⟨[.fz (.lst ds), t2, t3, t4, t5, t6, .un, .un], ?_⟩
    · unfold dRet xLift
      rw [e3]
      rfl
  obtain ⟨r, e⟩ := s1
  refine (fn_rt (d := .bl true) (r := .fz (.scr ns) :: r) rfl ?_ (by simp)).trans rfl
  exact e
theorem true_law (K : PySem.W.Frag) (Z : Zs) (f : Fcts K Z) (ns : List Int) (h : ns.length ≤ 63) : ∃ ps', fn_law K Z [.fz (.scr ns)] = some (.ret (.fz (.bl true)), ps') ∧ ps'.length = 1 := ⟨_, v_law f ns, rfl⟩
end K1

set_option Elab.async false
set_option linter.all false
set_option maxRecDepth 100000
set_option maxHeartbeats 4000000
namespace K1
open PySem PySem.Spec PyProof.Rows L2 Q
theorem all_mk {P : Program} {w : World} {K : PySem.W.Frag} {h : Heap} {mg : Str → Option Value} {fa : Addr} (true_law : ∀ (K : PySem.W.Frag) (Z : Zs), Fcts K Z → ∀ ns : List Int, ns.length ≤ 63 → ∃ ps', (fn_law K Z) [.fz (.scr ns)] = some (.ret (.fz (.bl true)), ps') ∧ ps'.length = 1)
    (X : K.In h) (G : h.Ns mainGlobals mg) (hfa : mg "law" = some (.ref fa))
    {f_is_number : Addr} {od_is_number an_is_number : Option Addr} {sl_is_number : Array (Option Value)} {oc_is_number kV_is_number dc_is_number pm_is_number cd_is_number ct_is_number : Value} {f_is_shape : Addr} {od_is_shape an_is_shape : Option Addr} {sl_is_shape : Array (Option Value)} {oc_is_shape kV_is_shape dc_is_shape pm_is_shape cd_is_shape ct_is_shape : Value} {f_check_shape : Addr} {od_check_shape an_check_shape : Option Addr} {sl_check_shape : Array (Option Value)} {oc_check_shape kV_check_shape dc_check_shape pm_check_shape cd_check_shape ct_check_shape : Value} {f_letters_of : Addr} {od_letters_of an_letters_of : Option Addr} {sl_letters_of : Array (Option Value)} {oc_letters_of kV_letters_of dc_letters_of pm_letters_of cd_letters_of ct_letters_of : Value} {f__law_mixed : Addr} {od__law_mixed an__law_mixed : Option Addr} {sl__law_mixed : Array (Option Value)} {oc__law_mixed kV__law_mixed dc__law_mixed pm__law_mixed cd__law_mixed ct__law_mixed : Value} {f__law_cell : Addr} {od__law_cell an__law_cell : Option Addr} {sl__law_cell : Array (Option Value)} {oc__law_cell kV__law_cell dc__law_cell pm__law_cell cd__law_cell ct__law_cell : Value} {f__law_take : Addr} {od__law_take an__law_take : Option Addr} {sl__law_take : Array (Option Value)} {oc__law_take kV__law_take dc__law_take pm__law_take cd__law_take ct__law_take : Value} {f__law_whole : Addr} {od__law_whole an__law_whole : Option Addr} {sl__law_whole : Array (Option Value)} {oc__law_whole kV__law_whole dc__law_whole pm__law_whole cd__law_whole ct__law_whole : Value} {f__law_only : Addr} {od__law_only an__law_only : Option Addr} {sl__law_only : Array (Option Value)} {oc__law_only kV__law_only dc__law_only pm__law_only cd__law_only ct__law_only : Value} {f__law_letters : Addr} {od__law_letters an__law_letters : Option Addr} {sl__law_letters : Array (Option Value)} {oc__law_letters kV__law_letters dc__law_letters pm__law_letters cd__law_letters ct__law_letters : Value} {f__law_is_shape : Addr} {od__law_is_shape an__law_is_shape : Option Addr} {sl__law_is_shape : Array (Option Value)} {oc__law_is_shape kV__law_is_shape dc__law_is_shape pm__law_is_shape cd__law_is_shape ct__law_is_shape : Value} {f__law_asked : Addr} {od__law_asked an__law_asked : Option Addr} {sl__law_asked : Array (Option Value)} {oc__law_asked kV__law_asked dc__law_asked pm__law_asked cd__law_asked ct__law_asked : Value} {f__law_good : Addr} {od__law_good an__law_good : Option Addr} {sl__law_good : Array (Option Value)} {oc__law_good kV__law_good dc__law_good pm__law_good cd__law_good ct__law_good : Value} {f_law : Addr} {od_law an_law : Option Addr} {sl_law : Array (Option Value)} {oc_law kV_law dc_law pm_law cd_law ct_law : Value} {t_MOST_FIELDS : Tok} {t_MOST_LETTERS : Tok} {t_MOST_VALUES : Tok} {C_SayError : Addr} {C_NoShape : Addr} {C_NoSaying : Addr} {C_NoLetter : Addr} {C_NoCount : Addr} {C_NoTest : Addr} {C_NoTable : Addr} {C_NoText : Addr} {C_NoLine : Addr} {C_NoName : Addr} {C_NoUndo : Addr} {C_TooMany : Addr}
    (a_is_number : PySem.W.nsIn K mainGlobals "is_number" = some (some (.ref f_is_number)))
    (l_is_number : K.lookup f_is_number = some ⟨oc_is_number, od_is_number, .func (PySem.W.fnOf "is_number" "is_number" (defArgs s_is_number) (defBody s_is_number) (defScope s_is_number) .none kV_is_number dc_is_number pm_is_number an_is_number cd_is_number ct_is_number), sl_is_number⟩)
    (c_is_number : PySem.W.codeIn K cd_is_number "is_number" = true)
    (k_is_number : PySem.W.keepIn K (.ref f_is_number) = true)
    (a_is_shape : PySem.W.nsIn K mainGlobals "is_shape" = some (some (.ref f_is_shape)))
    (l_is_shape : K.lookup f_is_shape = some ⟨oc_is_shape, od_is_shape, .func (PySem.W.fnOf "is_shape" "is_shape" (defArgs s_is_shape) (defBody s_is_shape) (defScope s_is_shape) .none kV_is_shape dc_is_shape pm_is_shape an_is_shape cd_is_shape ct_is_shape), sl_is_shape⟩)
    (c_is_shape : PySem.W.codeIn K cd_is_shape "is_shape" = true)
    (k_is_shape : PySem.W.keepIn K (.ref f_is_shape) = true)
    (a_check_shape : PySem.W.nsIn K mainGlobals "check_shape" = some (some (.ref f_check_shape)))
    (l_check_shape : K.lookup f_check_shape = some ⟨oc_check_shape, od_check_shape, .func (PySem.W.fnOf "check_shape" "check_shape" (defArgs s_check_shape) (defBody s_check_shape) (defScope s_check_shape) .none kV_check_shape dc_check_shape pm_check_shape an_check_shape cd_check_shape ct_check_shape), sl_check_shape⟩)
    (c_check_shape : PySem.W.codeIn K cd_check_shape "check_shape" = true)
    (k_check_shape : PySem.W.keepIn K (.ref f_check_shape) = true)
    (a_letters_of : PySem.W.nsIn K mainGlobals "letters_of" = some (some (.ref f_letters_of)))
    (l_letters_of : K.lookup f_letters_of = some ⟨oc_letters_of, od_letters_of, .func (PySem.W.fnOf "letters_of" "letters_of" (defArgs s_letters_of) (defBody s_letters_of) (defScope s_letters_of) .none kV_letters_of dc_letters_of pm_letters_of an_letters_of cd_letters_of ct_letters_of), sl_letters_of⟩)
    (c_letters_of : PySem.W.codeIn K cd_letters_of "letters_of" = true)
    (k_letters_of : PySem.W.keepIn K (.ref f_letters_of) = true)
    (a__law_mixed : PySem.W.nsIn K mainGlobals "_law_mixed" = some (some (.ref f__law_mixed)))
    (l__law_mixed : K.lookup f__law_mixed = some ⟨oc__law_mixed, od__law_mixed, .func (PySem.W.fnOf "_law_mixed" "_law_mixed" (defArgs s__law_mixed) (defBody s__law_mixed) (defScope s__law_mixed) .none kV__law_mixed dc__law_mixed pm__law_mixed an__law_mixed cd__law_mixed ct__law_mixed), sl__law_mixed⟩)
    (c__law_mixed : PySem.W.codeIn K cd__law_mixed "_law_mixed" = true)
    (k__law_mixed : PySem.W.keepIn K (.ref f__law_mixed) = true)
    (a__law_cell : PySem.W.nsIn K mainGlobals "_law_cell" = some (some (.ref f__law_cell)))
    (l__law_cell : K.lookup f__law_cell = some ⟨oc__law_cell, od__law_cell, .func (PySem.W.fnOf "_law_cell" "_law_cell" (defArgs s__law_cell) (defBody s__law_cell) (defScope s__law_cell) .none kV__law_cell dc__law_cell pm__law_cell an__law_cell cd__law_cell ct__law_cell), sl__law_cell⟩)
    (c__law_cell : PySem.W.codeIn K cd__law_cell "_law_cell" = true)
    (k__law_cell : PySem.W.keepIn K (.ref f__law_cell) = true)
    (a__law_take : PySem.W.nsIn K mainGlobals "_law_take" = some (some (.ref f__law_take)))
    (l__law_take : K.lookup f__law_take = some ⟨oc__law_take, od__law_take, .func (PySem.W.fnOf "_law_take" "_law_take" (defArgs s__law_take) (defBody s__law_take) (defScope s__law_take) .none kV__law_take dc__law_take pm__law_take an__law_take cd__law_take ct__law_take), sl__law_take⟩)
    (c__law_take : PySem.W.codeIn K cd__law_take "_law_take" = true)
    (k__law_take : PySem.W.keepIn K (.ref f__law_take) = true)
    (a__law_whole : PySem.W.nsIn K mainGlobals "_law_whole" = some (some (.ref f__law_whole)))
    (l__law_whole : K.lookup f__law_whole = some ⟨oc__law_whole, od__law_whole, .func (PySem.W.fnOf "_law_whole" "_law_whole" (defArgs s__law_whole) (defBody s__law_whole) (defScope s__law_whole) .none kV__law_whole dc__law_whole pm__law_whole an__law_whole cd__law_whole ct__law_whole), sl__law_whole⟩)
    (c__law_whole : PySem.W.codeIn K cd__law_whole "_law_whole" = true)
    (k__law_whole : PySem.W.keepIn K (.ref f__law_whole) = true)
    (a__law_only : PySem.W.nsIn K mainGlobals "_law_only" = some (some (.ref f__law_only)))
    (l__law_only : K.lookup f__law_only = some ⟨oc__law_only, od__law_only, .func (PySem.W.fnOf "_law_only" "_law_only" (defArgs s__law_only) (defBody s__law_only) (defScope s__law_only) .none kV__law_only dc__law_only pm__law_only an__law_only cd__law_only ct__law_only), sl__law_only⟩)
    (c__law_only : PySem.W.codeIn K cd__law_only "_law_only" = true)
    (k__law_only : PySem.W.keepIn K (.ref f__law_only) = true)
    (a__law_letters : PySem.W.nsIn K mainGlobals "_law_letters" = some (some (.ref f__law_letters)))
    (l__law_letters : K.lookup f__law_letters = some ⟨oc__law_letters, od__law_letters, .func (PySem.W.fnOf "_law_letters" "_law_letters" (defArgs s__law_letters) (defBody s__law_letters) (defScope s__law_letters) .none kV__law_letters dc__law_letters pm__law_letters an__law_letters cd__law_letters ct__law_letters), sl__law_letters⟩)
    (c__law_letters : PySem.W.codeIn K cd__law_letters "_law_letters" = true)
    (k__law_letters : PySem.W.keepIn K (.ref f__law_letters) = true)
    (a__law_is_shape : PySem.W.nsIn K mainGlobals "_law_is_shape" = some (some (.ref f__law_is_shape)))
    (l__law_is_shape : K.lookup f__law_is_shape = some ⟨oc__law_is_shape, od__law_is_shape, .func (PySem.W.fnOf "_law_is_shape" "_law_is_shape" (defArgs s__law_is_shape) (defBody s__law_is_shape) (defScope s__law_is_shape) .none kV__law_is_shape dc__law_is_shape pm__law_is_shape an__law_is_shape cd__law_is_shape ct__law_is_shape), sl__law_is_shape⟩)
    (c__law_is_shape : PySem.W.codeIn K cd__law_is_shape "_law_is_shape" = true)
    (k__law_is_shape : PySem.W.keepIn K (.ref f__law_is_shape) = true)
    (a__law_asked : PySem.W.nsIn K mainGlobals "_law_asked" = some (some (.ref f__law_asked)))
    (l__law_asked : K.lookup f__law_asked = some ⟨oc__law_asked, od__law_asked, .func (PySem.W.fnOf "_law_asked" "_law_asked" (defArgs s__law_asked) (defBody s__law_asked) (defScope s__law_asked) .none kV__law_asked dc__law_asked pm__law_asked an__law_asked cd__law_asked ct__law_asked), sl__law_asked⟩)
    (c__law_asked : PySem.W.codeIn K cd__law_asked "_law_asked" = true)
    (k__law_asked : PySem.W.keepIn K (.ref f__law_asked) = true)
    (a__law_good : PySem.W.nsIn K mainGlobals "_law_good" = some (some (.ref f__law_good)))
    (l__law_good : K.lookup f__law_good = some ⟨oc__law_good, od__law_good, .func (PySem.W.fnOf "_law_good" "_law_good" (defArgs s__law_good) (defBody s__law_good) (defScope s__law_good) .none kV__law_good dc__law_good pm__law_good an__law_good cd__law_good ct__law_good), sl__law_good⟩)
    (c__law_good : PySem.W.codeIn K cd__law_good "_law_good" = true)
    (k__law_good : PySem.W.keepIn K (.ref f__law_good) = true)
    (a_law : PySem.W.nsIn K mainGlobals "law" = some (some (.ref f_law)))
    (l_law : K.lookup f_law = some ⟨oc_law, od_law, .func (PySem.W.fnOf "law" "law" (defArgs s_law) (defBody s_law) (defScope s_law) .none kV_law dc_law pm_law an_law cd_law ct_law), sl_law⟩)
    (c_law : PySem.W.codeIn K cd_law "law" = true)
    (k_law : PySem.W.keepIn K (.ref f_law) = true)
    (z_ValueError : PySem.W.nsIn K mainGlobals "ValueError" = some none)
    (z_all : PySem.W.nsIn K mainGlobals "all" = some none)
    (z_bool : PySem.W.nsIn K mainGlobals "bool" = some none)
    (z_int : PySem.W.nsIn K mainGlobals "int" = some none)
    (z_isinstance : PySem.W.nsIn K mainGlobals "isinstance" = some none)
    (z_len : PySem.W.nsIn K mainGlobals "len" = some none)
    (z_list : PySem.W.nsIn K mainGlobals "list" = some none)
    (z_max : PySem.W.nsIn K mainGlobals "max" = some none)
    (z_range : PySem.W.nsIn K mainGlobals "range" = some none)
    (z_repr : PySem.W.nsIn K mainGlobals "repr" = some none)
    (z_tuple : PySem.W.nsIn K mainGlobals "tuple" = some none)
    (z_zip : PySem.W.nsIn K mainGlobals "zip" = some none)
    (q_MOST_FIELDS : PySem.W.nsIn K mainGlobals "MOST_FIELDS" = some (some (.int 3 t_MOST_FIELDS)))
    (q_MOST_LETTERS : PySem.W.nsIn K mainGlobals "MOST_LETTERS" = some (some (.int 27 t_MOST_LETTERS)))
    (q_MOST_VALUES : PySem.W.nsIn K mainGlobals "MOST_VALUES" = some (some (.int 4 t_MOST_VALUES)))
    (g_SayError : PySem.W.nsIn K mainGlobals "SayError" = some (some (.ref C_SayError)))
    (g_NoShape : PySem.W.nsIn K mainGlobals "NoShape" = some (some (.ref C_NoShape)))
    (g_NoSaying : PySem.W.nsIn K mainGlobals "NoSaying" = some (some (.ref C_NoSaying)))
    (g_NoLetter : PySem.W.nsIn K mainGlobals "NoLetter" = some (some (.ref C_NoLetter)))
    (g_NoCount : PySem.W.nsIn K mainGlobals "NoCount" = some (some (.ref C_NoCount)))
    (g_NoTest : PySem.W.nsIn K mainGlobals "NoTest" = some (some (.ref C_NoTest)))
    (g_NoTable : PySem.W.nsIn K mainGlobals "NoTable" = some (some (.ref C_NoTable)))
    (g_NoText : PySem.W.nsIn K mainGlobals "NoText" = some (some (.ref C_NoText)))
    (g_NoLine : PySem.W.nsIn K mainGlobals "NoLine" = some (some (.ref C_NoLine)))
    (g_NoName : PySem.W.nsIn K mainGlobals "NoName" = some (some (.ref C_NoName)))
    (g_NoUndo : PySem.W.nsIn K mainGlobals "NoUndo" = some (some (.ref C_NoUndo)))
    (g_TooMany : PySem.W.nsIn K mainGlobals "TooMany" = some (some (.ref C_TooMany)))
    (x_NoShape : PySem.W.excIn K C_NoShape [.type "ValueError", .type "Exception", .type "BaseException", .type "object"] "ValueError.__new__" = true)
    (p_NoShape : PySem.W.keepIn K (.ref C_NoShape) = true)
    (u_NoShape : PySem.W.subIn K (.ref C_NoShape) (.type "BaseException") = some true)
    (t_NoShape : PySem.W.typeIn K (.ref C_NoShape) = some (.type "type"))
    (e1_NoShape : PySem.W.findIn K (.ref C_NoShape) "__getattribute__" = some (some (.builtin "BaseException.__getattribute__")))
    (e2_NoShape : PySem.W.findIn K (.ref C_NoShape) "__getattr__" = some none)
    (e4_NoShape : PySem.W.hasDictIn K C_NoShape = true)
    (e5_NoShape : PySem.W.findIn K (.ref C_NoShape) "__class__" = some (some (.builtin "object.__class__")))
    (e8_NoShape : PySem.W.mroIn K C_NoShape (.type "object") = some true)
    (i_NoShape_NoCount : PySem.W.subIn K (.ref C_NoShape) (.ref C_NoCount) = some false)
    (n_NoShape_NoCount : C_NoShape ≠ C_NoCount)
    (i_NoShape_NoLetter : PySem.W.subIn K (.ref C_NoShape) (.ref C_NoLetter) = some false)
    (n_NoShape_NoLetter : C_NoShape ≠ C_NoLetter)
    (i_NoShape_NoLine : PySem.W.subIn K (.ref C_NoShape) (.ref C_NoLine) = some false)
    (n_NoShape_NoLine : C_NoShape ≠ C_NoLine)
    (i_NoShape_NoName : PySem.W.subIn K (.ref C_NoShape) (.ref C_NoName) = some false)
    (n_NoShape_NoName : C_NoShape ≠ C_NoName)
    (i_NoShape_NoSaying : PySem.W.subIn K (.ref C_NoShape) (.ref C_NoSaying) = some false)
    (n_NoShape_NoSaying : C_NoShape ≠ C_NoSaying)
    (i_NoShape_NoShape : PySem.W.subIn K (.ref C_NoShape) (.ref C_NoShape) = some true)
    (i_NoShape_NoTable : PySem.W.subIn K (.ref C_NoShape) (.ref C_NoTable) = some false)
    (n_NoShape_NoTable : C_NoShape ≠ C_NoTable)
    (i_NoShape_NoTest : PySem.W.subIn K (.ref C_NoShape) (.ref C_NoTest) = some false)
    (n_NoShape_NoTest : C_NoShape ≠ C_NoTest)
    (i_NoShape_NoText : PySem.W.subIn K (.ref C_NoShape) (.ref C_NoText) = some false)
    (n_NoShape_NoText : C_NoShape ≠ C_NoText)
    (i_NoShape_NoUndo : PySem.W.subIn K (.ref C_NoShape) (.ref C_NoUndo) = some false)
    (n_NoShape_NoUndo : C_NoShape ≠ C_NoUndo)
    (i_NoShape_SayError : PySem.W.subIn K (.ref C_NoShape) (.ref C_SayError) = some true)
    (i_NoShape_TooMany : PySem.W.subIn K (.ref C_NoShape) (.ref C_TooMany) = some false)
    (n_NoShape_TooMany : C_NoShape ≠ C_TooMany)
    (i_NoShape_ValueError : PySem.W.subIn K (.ref C_NoShape) (.type "ValueError") = some true)
    (ty_NoCount : PySem.W.typeIn K (.ref C_NoCount) = some (.type "type"))
    (hd_NoCount : PySem.W.hasDictIn K C_NoCount = true)
    (ty_NoLetter : PySem.W.typeIn K (.ref C_NoLetter) = some (.type "type"))
    (hd_NoLetter : PySem.W.hasDictIn K C_NoLetter = true)
    (ty_NoLine : PySem.W.typeIn K (.ref C_NoLine) = some (.type "type"))
    (hd_NoLine : PySem.W.hasDictIn K C_NoLine = true)
    (ty_NoName : PySem.W.typeIn K (.ref C_NoName) = some (.type "type"))
    (hd_NoName : PySem.W.hasDictIn K C_NoName = true)
    (ty_NoSaying : PySem.W.typeIn K (.ref C_NoSaying) = some (.type "type"))
    (hd_NoSaying : PySem.W.hasDictIn K C_NoSaying = true)
    (ty_NoShape : PySem.W.typeIn K (.ref C_NoShape) = some (.type "type"))
    (hd_NoShape : PySem.W.hasDictIn K C_NoShape = true)
    (ty_NoTable : PySem.W.typeIn K (.ref C_NoTable) = some (.type "type"))
    (hd_NoTable : PySem.W.hasDictIn K C_NoTable = true)
    (ty_NoTest : PySem.W.typeIn K (.ref C_NoTest) = some (.type "type"))
    (hd_NoTest : PySem.W.hasDictIn K C_NoTest = true)
    (ty_NoText : PySem.W.typeIn K (.ref C_NoText) = some (.type "type"))
    (hd_NoText : PySem.W.hasDictIn K C_NoText = true)
    (ty_NoUndo : PySem.W.typeIn K (.ref C_NoUndo) = some (.type "type"))
    (hd_NoUndo : PySem.W.hasDictIn K C_NoUndo = true)
    (ty_SayError : PySem.W.typeIn K (.ref C_SayError) = some (.type "type"))
    (hd_SayError : PySem.W.hasDictIn K C_SayError = true)
    (ty_TooMany : PySem.W.typeIn K (.ref C_TooMany) = some (.type "type"))
    (hd_TooMany : PySem.W.hasDictIn K C_TooMany = true)
    (ub : PySem.W.subIn K (.ref C_SayError) (.type "BaseException") = some true)
    (e6 : PySem.W.specialIn K (.builtin "object.__class__") "__get__" = some (some (.builtin "getset_descriptor.__get__")))
    (e7 : PySem.W.takesIn K (.builtin "object.__class__") = some true) :
    ∃ fd : FuncData, (∀ (s : Shared) (v : Value), BindsTo s fd ⟨[v], []⟩ [("_law_script", v)]) ∧ ∃ sp : Sp, (∀ base : Heap, K.In base → base.Ns mainGlobals mg → FnG P w K mg base 7 fa fd ["_law_script"] sp) ∧
      ∀ (H : Hp) (a : Addr) (ns : List Int), ns.length ≤ 63 → SqL K H a (ns.map V.int) → sp [.ref a] H (fun v _ => v = .bl true) fun _ _ _ => False := by
  have e := hfa.symm.trans (PySem.W.mg_of X G a_law)
  cases e
  let Z : Zs := ⟨C_SayError, C_NoShape, C_NoSaying, C_NoLetter, C_NoCount, C_NoTest, C_NoTable, C_NoText, C_NoLine, C_NoName, C_NoUndo, C_TooMany⟩
  have T : Txt K mg Z w := { b_ValueError := PySem.W.mg_none_of X G z_ValueError, b_all := PySem.W.mg_none_of X G z_all, b_bool := PySem.W.mg_none_of X G z_bool, b_int := PySem.W.mg_none_of X G z_int, b_isinstance := PySem.W.mg_none_of X G z_isinstance, b_len := PySem.W.mg_none_of X G z_len, b_list := PySem.W.mg_none_of X G z_list, b_max := PySem.W.mg_none_of X G z_max, b_range := PySem.W.mg_none_of X G z_range, b_repr := PySem.W.mg_none_of X G z_repr, b_tuple := PySem.W.mg_none_of X G z_tuple, b_zip := PySem.W.mg_none_of X G z_zip, k_MOST_FIELDS := by unfold tok_MOST_FIELDS; rw [PySem.W.mg_of X G q_MOST_FIELDS], k_MOST_LETTERS := by unfold tok_MOST_LETTERS; rw [PySem.W.mg_of X G q_MOST_LETTERS], k_MOST_VALUES := by unfold tok_MOST_VALUES; rw [PySem.W.mg_of X G q_MOST_VALUES], c_SayError := PySem.W.mg_of X G g_SayError, c_NoShape := PySem.W.mg_of X G g_NoShape, c_NoSaying := PySem.W.mg_of X G g_NoSaying, c_NoLetter := PySem.W.mg_of X G g_NoLetter, c_NoCount := PySem.W.mg_of X G g_NoCount, c_NoTest := PySem.W.mg_of X G g_NoTest, c_NoTable := PySem.W.mg_of X G g_NoTable, c_NoText := PySem.W.mg_of X G g_NoText, c_NoLine := PySem.W.mg_of X G g_NoLine, c_NoName := PySem.W.mg_of X G g_NoName, c_NoUndo := PySem.W.mg_of X G g_NoUndo, c_TooMany := PySem.W.mg_of X G g_TooMany, x_NoShape := x_NoShape, p_NoShape := p_NoShape, u_NoShape := u_NoShape, t_NoShape := t_NoShape }
  have FC : Fcts K Z := { ex_NoShape := ⟨e1_NoShape, e2_NoShape, u_NoShape, e4_NoShape, e5_NoShape, e6, e7, e8_NoShape⟩, i_NoShape_NoCount := kit_ref hd_NoCount ty_NoCount i_NoShape_NoCount (fun z => absurd z n_NoShape_NoCount), i_NoShape_NoLetter := kit_ref hd_NoLetter ty_NoLetter i_NoShape_NoLetter (fun z => absurd z n_NoShape_NoLetter), i_NoShape_NoLine := kit_ref hd_NoLine ty_NoLine i_NoShape_NoLine (fun z => absurd z n_NoShape_NoLine), i_NoShape_NoName := kit_ref hd_NoName ty_NoName i_NoShape_NoName (fun z => absurd z n_NoShape_NoName), i_NoShape_NoSaying := kit_ref hd_NoSaying ty_NoSaying i_NoShape_NoSaying (fun z => absurd z n_NoShape_NoSaying), i_NoShape_NoShape := kit_ref hd_NoShape ty_NoShape i_NoShape_NoShape (fun _ => rfl), i_NoShape_NoTable := kit_ref hd_NoTable ty_NoTable i_NoShape_NoTable (fun z => absurd z n_NoShape_NoTable), i_NoShape_NoTest := kit_ref hd_NoTest ty_NoTest i_NoShape_NoTest (fun z => absurd z n_NoShape_NoTest), i_NoShape_NoText := kit_ref hd_NoText ty_NoText i_NoShape_NoText (fun z => absurd z n_NoShape_NoText), i_NoShape_NoUndo := kit_ref hd_NoUndo ty_NoUndo i_NoShape_NoUndo (fun z => absurd z n_NoShape_NoUndo), i_NoShape_SayError := kit_ref hd_SayError ty_SayError i_NoShape_SayError (fun _ => rfl), i_NoShape_TooMany := kit_ref hd_TooMany ty_TooMany i_NoShape_TooMany (fun z => absurd z n_NoShape_TooMany), i_NoShape_ValueError := kit_typ (by decide +kernel) i_NoShape_ValueError, m_NoShape := PySem.W.exm_ref ub hd_SayError ty_SayError i_NoShape_SayError }
  have F_is_number := fun_mk (st := s_is_number) l_is_number c_is_number k_is_number
  have F_is_shape := fun_mk (st := s_is_shape) l_is_shape c_is_shape k_is_shape
  have F_check_shape := fun_mk (st := s_check_shape) l_check_shape c_check_shape k_check_shape
  have F_letters_of := fun_mk (st := s_letters_of) l_letters_of c_letters_of k_letters_of
  have F__law_mixed := fun_mk (st := s__law_mixed) l__law_mixed c__law_mixed k__law_mixed
  have F__law_cell := fun_mk (st := s__law_cell) l__law_cell c__law_cell k__law_cell
  have F__law_take := fun_mk (st := s__law_take) l__law_take c__law_take k__law_take
  have F__law_whole := fun_mk (st := s__law_whole) l__law_whole c__law_whole k__law_whole
  have F__law_only := fun_mk (st := s__law_only) l__law_only c__law_only k__law_only
  have F__law_letters := fun_mk (st := s__law_letters) l__law_letters c__law_letters k__law_letters
  have F__law_is_shape := fun_mk (st := s__law_is_shape) l__law_is_shape c__law_is_shape k__law_is_shape
  have F__law_asked := fun_mk (st := s__law_asked) l__law_asked c__law_asked k__law_asked
  have F__law_good := fun_mk (st := s__law_good) l__law_good c__law_good k__law_good
  have F_law := fun_mk (st := s_law) l_law c_law k_law
  refine ⟨PySem.W.fnOf "law" "law" (defArgs s_law) (defBody s_law) (defScope s_law) .none kV_law dc_law pm_law an_law cd_law ct_law, fun s v => .of_eq rfl, spD K 1 (fn_law K Z), fun base _ _ => ?_, fun H a ns hl hS => ?_⟩
  case refine_2 =>
    obtain ⟨ps', e, hl'⟩ := true_law K Z FC ns hl
    exact law_sp hS e hl'
  have E_is_number : FnE P w K mg base 1 "is_number" ["thing"] fn_is_number := ⟨⟨_, _, ok_is_number T F_is_number, PySem.W.mg_of X G a_is_number, k_is_number, F_is_number.binds (ps := ["thing"]) fun _ _ _ _ _ _ us hl => match us, hl with | [_], _ => rfl⟩, fun qs z e => fnD_len qs z e⟩
  have E_is_shape : FnE P w K mg base 2 "is_shape" ["thing"] fn_is_shape := ⟨⟨_, _, ok_is_shape T F_is_shape E_is_number, PySem.W.mg_of X G a_is_shape, k_is_shape, F_is_shape.binds (ps := ["thing"]) fun _ _ _ _ _ _ us hl => match us, hl with | [_], _ => rfl⟩, fun qs z e => fnD_len qs z e⟩
  have E_check_shape : FnE P w K mg base 3 "check_shape" ["shape"] (fn_check_shape Z) := ⟨⟨_, _, ok_check_shape T F_check_shape E_is_shape, PySem.W.mg_of X G a_check_shape, k_check_shape, F_check_shape.binds (ps := ["shape"]) fun _ _ _ _ _ _ us hl => match us, hl with | [_], _ => rfl⟩, fun qs z e => fnD_len qs z e⟩
  have E_letters_of : FnE P w K mg base 4 "letters_of" ["shape"] (fn_letters_of Z) := ⟨⟨_, _, ok_letters_of T F_letters_of E_check_shape, PySem.W.mg_of X G a_letters_of, k_letters_of, F_letters_of.binds (ps := ["shape"]) fun _ _ _ _ _ _ us hl => match us, hl with | [_], _ => rfl⟩, fun qs z e => fnD_len qs z e⟩
  have E__law_mixed : FnE P w K mg base 1 "_law_mixed" ["_law_cell_here", "_law_k"] fn__law_mixed := ⟨⟨_, _, ok__law_mixed T F__law_mixed, PySem.W.mg_of X G a__law_mixed, k__law_mixed, F__law_mixed.binds (ps := ["_law_cell_here", "_law_k"]) fun _ _ _ _ _ _ us hl => match us, hl with | [_, _], _ => rfl⟩, fun qs z e => fnD_len qs z e⟩
  have E__law_cell : FnE P w K mg base 2 "_law_cell" ["_law_script", "_law_k"] fn__law_cell := ⟨⟨_, _, ok__law_cell T F__law_cell E__law_mixed, PySem.W.mg_of X G a__law_cell, k__law_cell, F__law_cell.binds (ps := ["_law_script", "_law_k"]) fun _ _ _ _ _ _ us hl => match us, hl with | [_, _], _ => rfl⟩, fun qs z e => fnD_len qs z e⟩
  have E__law_take : FnE P w K mg base 1 "_law_take" ["_law_pile", "_law_size"] fn__law_take := ⟨⟨_, _, ok__law_take T F__law_take, PySem.W.mg_of X G a__law_take, k__law_take, F__law_take.binds (ps := ["_law_pile", "_law_size"]) fun _ _ _ _ _ _ us hl => match us, hl with | [_, _], _ => rfl⟩, fun qs z e => fnD_len qs z e⟩
  have E__law_whole : FnE P w K mg base 1 "_law_whole" ["_law_thing"] fn__law_whole := ⟨⟨_, _, ok__law_whole T F__law_whole, PySem.W.mg_of X G a__law_whole, k__law_whole, F__law_whole.binds (ps := ["_law_thing"]) fun _ _ _ _ _ _ us hl => match us, hl with | [_], _ => rfl⟩, fun qs z e => fnD_len qs z e⟩
  have E__law_only : FnE P w K mg base 1 "_law_only" ["_law_error", "_law_name"] (fn__law_only K Z) := ⟨⟨_, _, ok__law_only T F__law_only, PySem.W.mg_of X G a__law_only, k__law_only, F__law_only.binds (ps := ["_law_error", "_law_name"]) fun _ _ _ _ _ _ us hl => match us, hl with | [_, _], _ => rfl⟩, fun qs z e => fnD_len qs z e⟩
  have E__law_letters : FnE P w K mg base 1 "_law_letters" ["_law_shape"] fn__law_letters := ⟨⟨_, _, ok__law_letters T F__law_letters, PySem.W.mg_of X G a__law_letters, k__law_letters, F__law_letters.binds (ps := ["_law_shape"]) fun _ _ _ _ _ _ us hl => match us, hl with | [_], _ => rfl⟩, fun qs z e => fnD_len qs z e⟩
  have E__law_is_shape : FnE P w K mg base 2 "_law_is_shape" ["_law_thing"] fn__law_is_shape := ⟨⟨_, _, ok__law_is_shape T F__law_is_shape E__law_whole, PySem.W.mg_of X G a__law_is_shape, k__law_is_shape, F__law_is_shape.binds (ps := ["_law_thing"]) fun _ _ _ _ _ _ us hl => match us, hl with | [_], _ => rfl⟩, fun qs z e => fnD_len qs z e⟩
  have E__law_asked : FnE P w K mg base 5 "_law_asked" ["_law_thing"] (fn__law_asked K Z) := ⟨⟨_, _, ok__law_asked T F__law_asked E_letters_of, PySem.W.mg_of X G a__law_asked, k__law_asked, F__law_asked.binds (ps := ["_law_thing"]) fun _ _ _ _ _ _ us hl => match us, hl with | [_], _ => rfl⟩, fun qs z e => fnD_len qs z e⟩
  have E__law_good : FnE P w K mg base 6 "_law_good" ["_law_thing"] (fn__law_good K Z) := ⟨⟨_, _, ok__law_good T F__law_good E_is_shape E_letters_of E__law_whole E__law_only E__law_letters E__law_is_shape E__law_asked, PySem.W.mg_of X G a__law_good, k__law_good, F__law_good.binds (ps := ["_law_thing"]) fun _ _ _ _ _ _ us hl => match us, hl with | [_], _ => rfl⟩, fun qs z e => fnD_len qs z e⟩
  exact ok_law T F_law E__law_cell E__law_take E__law_good

end K1
open PySem PySem.W PyProof.Rows
set_option maxRecDepth 100000 in
set_option maxHeartbeats 0 in
theorem PySem.Challenge.cw_roadsay_k01_what_is_a_shape_holds : PySem.Challenge.rw_roadsay_k01_what_is_a_shape.Holds := by
  w_on; o_law; k_head; (case hw => w_witness2)
  k_fill
  refine Q.walk_g (l := PySem.Challenge.rw_roadsay_k01_what_is_a_shape) (n := 63) (k := 7) (x := "_law_script") rfl (by decide) rfl ⟨rfl, by decide, by decide⟩ (fun w h Y => PySem.W.kIn_of Y) ?F
  case F =>
    intro w mg fa h KX G hmg
    refine' K1.all_mk K1.true_law KX G hmg ?a_is_number ?l_is_number ?c_is_number ?k_is_number ?a_is_shape ?l_is_shape ?c_is_shape ?k_is_shape ?a_check_shape ?l_check_shape ?c_check_shape ?k_check_shape ?a_letters_of ?l_letters_of ?c_letters_of ?k_letters_of ?a__law_mixed ?l__law_mixed ?c__law_mixed ?k__law_mixed ?a__law_cell ?l__law_cell ?c__law_cell ?k__law_cell ?a__law_take ?l__law_take ?c__law_take ?k__law_take ?a__law_whole ?l__law_whole ?c__law_whole ?k__law_whole ?a__law_only ?l__law_only ?c__law_only ?k__law_only ?a__law_letters ?l__law_letters ?c__law_letters ?k__law_letters ?a__law_is_shape ?l__law_is_shape ?c__law_is_shape ?k__law_is_shape ?a__law_asked ?l__law_asked ?c__law_asked ?k__law_asked ?a__law_good ?l__law_good ?c__law_good ?k__law_good ?a_law ?l_law ?c_law ?k_law ?z_ValueError ?z_all ?z_bool ?z_int ?z_isinstance ?z_len ?z_list ?z_max ?z_range ?z_repr ?z_tuple ?z_zip ?q_MOST_FIELDS ?q_MOST_LETTERS ?q_MOST_VALUES ?g_SayError ?g_NoShape ?g_NoSaying ?g_NoLetter ?g_NoCount ?g_NoTest ?g_NoTable ?g_NoText ?g_NoLine ?g_NoName ?g_NoUndo ?g_TooMany ?x_NoShape ?p_NoShape ?u_NoShape ?t_NoShape ?e1_NoShape ?e2_NoShape ?e4_NoShape ?e5_NoShape ?e8_NoShape ?i_NoShape_NoCount ?n_NoShape_NoCount ?i_NoShape_NoLetter ?n_NoShape_NoLetter ?i_NoShape_NoLine ?n_NoShape_NoLine ?i_NoShape_NoName ?n_NoShape_NoName ?i_NoShape_NoSaying ?n_NoShape_NoSaying ?i_NoShape_NoShape ?i_NoShape_NoTable ?n_NoShape_NoTable ?i_NoShape_NoTest ?n_NoShape_NoTest ?i_NoShape_NoText ?n_NoShape_NoText ?i_NoShape_NoUndo ?n_NoShape_NoUndo ?i_NoShape_SayError ?i_NoShape_TooMany ?n_NoShape_TooMany ?i_NoShape_ValueError ?ty_NoCount ?hd_NoCount ?ty_NoLetter ?hd_NoLetter ?ty_NoLine ?hd_NoLine ?ty_NoName ?hd_NoName ?ty_NoSaying ?hd_NoSaying ?ty_NoShape ?hd_NoShape ?ty_NoTable ?hd_NoTable ?ty_NoTest ?hd_NoTest ?ty_NoText ?hd_NoText ?ty_NoUndo ?hd_NoUndo ?ty_SayError ?hd_SayError ?ty_TooMany ?hd_TooMany ?ub ?e6 ?e7
    (case a_is_number => k_is)
    (case l_is_number => k_is)
    (case c_is_number => k_is)
    (case k_is_number => k_is)
    (case a_is_shape => k_is)
    (case l_is_shape => k_is)
    (case c_is_shape => k_is)
    (case k_is_shape => k_is)
    (case a_check_shape => k_is)
    (case l_check_shape => k_is)
    (case c_check_shape => k_is)
    (case k_check_shape => k_is)
    (case a_letters_of => k_is)
    (case l_letters_of => k_is)
    (case c_letters_of => k_is)
    (case k_letters_of => k_is)
    (case a__law_mixed => k_is)
    (case l__law_mixed => k_is)
    (case c__law_mixed => k_is)
    (case k__law_mixed => k_is)
    (case a__law_cell => k_is)
    (case l__law_cell => k_is)
    (case c__law_cell => k_is)
    (case k__law_cell => k_is)
    (case a__law_take => k_is)
    (case l__law_take => k_is)
    (case c__law_take => k_is)
    (case k__law_take => k_is)
    (case a__law_whole => k_is)
    (case l__law_whole => k_is)
    (case c__law_whole => k_is)
    (case k__law_whole => k_is)
    (case a__law_only => k_is)
    (case l__law_only => k_is)
    (case c__law_only => k_is)
    (case k__law_only => k_is)
    (case a__law_letters => k_is)
    (case l__law_letters => k_is)
    (case c__law_letters => k_is)
    (case k__law_letters => k_is)
    (case a__law_is_shape => k_is)
    (case l__law_is_shape => k_is)
    (case c__law_is_shape => k_is)
    (case k__law_is_shape => k_is)
    (case a__law_asked => k_is)
    (case l__law_asked => k_is)
    (case c__law_asked => k_is)
    (case k__law_asked => k_is)
    (case a__law_good => k_is)
    (case l__law_good => k_is)
    (case c__law_good => k_is)
    (case k__law_good => k_is)
    (case a_law => k_is)
    (case l_law => k_is)
    (case c_law => k_is)
    (case k_law => k_is)
    (case z_ValueError => k_is)
    (case z_all => k_is)
    (case z_bool => k_is)
    (case z_int => k_is)
    (case z_isinstance => k_is)
    (case z_len => k_is)
    (case z_list => k_is)
    (case z_max => k_is)
    (case z_range => k_is)
    (case z_repr => k_is)
    (case z_tuple => k_is)
    (case z_zip => k_is)
    (case q_MOST_FIELDS => k_is)
    (case q_MOST_LETTERS => k_is)
    (case q_MOST_VALUES => k_is)
    (case g_SayError => k_is)
    (case g_NoShape => k_is)
    (case g_NoSaying => k_is)
    (case g_NoLetter => k_is)
    (case g_NoCount => k_is)
    (case g_NoTest => k_is)
    (case g_NoTable => k_is)
    (case g_NoText => k_is)
    (case g_NoLine => k_is)
    (case g_NoName => k_is)
    (case g_NoUndo => k_is)
    (case g_TooMany => k_is)
    (case x_NoShape => k_exc)
    (case p_NoShape => k_is)
    (case u_NoShape => k_is)
    (case t_NoShape => k_is)
    (case e1_NoShape => k_is)
    (case e2_NoShape => k_is)
    (case e4_NoShape => k_is)
    (case e5_NoShape => k_is)
    (case e8_NoShape => k_is)
    (case i_NoShape_NoCount => k_is)
    (case n_NoShape_NoCount => decide)
    (case i_NoShape_NoLetter => k_is)
    (case n_NoShape_NoLetter => decide)
    (case i_NoShape_NoLine => k_is)
    (case n_NoShape_NoLine => decide)
    (case i_NoShape_NoName => k_is)
    (case n_NoShape_NoName => decide)
    (case i_NoShape_NoSaying => k_is)
    (case n_NoShape_NoSaying => decide)
    (case i_NoShape_NoShape => k_is)
    (case i_NoShape_NoTable => k_is)
    (case n_NoShape_NoTable => decide)
    (case i_NoShape_NoTest => k_is)
    (case n_NoShape_NoTest => decide)
    (case i_NoShape_NoText => k_is)
    (case n_NoShape_NoText => decide)
    (case i_NoShape_NoUndo => k_is)
    (case n_NoShape_NoUndo => decide)
    (case i_NoShape_SayError => k_is)
    (case i_NoShape_TooMany => k_is)
    (case n_NoShape_TooMany => decide)
    (case i_NoShape_ValueError => k_is)
    (case ty_NoCount => k_is)
    (case hd_NoCount => k_is)
    (case ty_NoLetter => k_is)
    (case hd_NoLetter => k_is)
    (case ty_NoLine => k_is)
    (case hd_NoLine => k_is)
    (case ty_NoName => k_is)
    (case hd_NoName => k_is)
    (case ty_NoSaying => k_is)
    (case hd_NoSaying => k_is)
    (case ty_NoShape => k_is)
    (case hd_NoShape => k_is)
    (case ty_NoTable => k_is)
    (case hd_NoTable => k_is)
    (case ty_NoTest => k_is)
    (case hd_NoTest => k_is)
    (case ty_NoText => k_is)
    (case hd_NoText => k_is)
    (case ty_NoUndo => k_is)
    (case hd_NoUndo => k_is)
    (case ty_SayError => k_is)
    (case hd_SayError => k_is)
    (case ty_TooMany => k_is)
    (case hd_TooMany => k_is)
    (case ub => k_is)
    (case e6 => k_is)
    (case e7 => k_is)
