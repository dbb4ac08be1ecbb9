import PyProof.Rows.All
import Wide.All
import OpenK.AllK
import Wide.FinOn
import KE.KeyNested
import HandS.ForMost
import HandS.ForExc
import HandS.IsInst
import HandS.ExcIs
import HandS.Wide
import HandS.AnyAll
import HandS.GenOver
import HandS.Dict
import HandS.Small
import HandS.DictComp
import HandS.TupAny
import HandS.Deep
import HandS.WideBits
import HandS.Sort
import PyProof.ReprRoads
import HandS.ExcValue
import HandS.Rev
import HandS.Style
import HandS.CallLocal
import HandS.SortOrd
import HandS.TupSets
import HandS.Zip
import KE.GoesMore
import PyProof.TupleOfGen
import HandS.SetBool
import KE.DataFind
import HandS.Comp
import KE.SortData
import HandS.ReplaceLit
import HandS.FStr
import HandS.MapJoin
import HandS.Codes
import HandS.ReplaceList
import PySem.Challenge.RW_roadsay_k68_sayings_as_texts
set_option Elab.async false
set_option linter.all false
set_option maxRecDepth 100000
set_option maxHeartbeats 2000000
namespace Q
open PySem PySem.Spec PyProof.Rows L2
/-- the tables of the code objects that may grow -/
class TbS where
  tb : Addr → Prop
  hk : Key → Int
  so : Addr → List (Addr × List Int) → HO
  sn : Addr → Obj → List (NestedKey × Addr × V) → HO
variable [TbS]
/-! ### dicts that are known to their object (so they can be walked) -/
/-- with each key that is a tuple goes the tuple's address -/
abbrev KA := List (List Key × Addr × V)
abbrev KX : KA → List (List Key × Addr × Value) → Prop := Paired fun p q => p.1 = q.1 ∧ p.2.1 = q.2.1 ∧ RelV p.2.2 q.2.2
def entX (hk : Key → Int) (x : List Key × Addr × Value) : DictEntry := ⟨reduceHash (Builtin.Tuple.tupleHashOf (x.1.map hk)), .ref x.2.1, x.2.2⟩
def DX0 (hk : Key → Int) (h : Heap) (a : Addr) (o : Obj) (kas : KA) : Prop := h.get? a = some o ∧ kas.length ≤ sizeLine ∧ (a == sysModules) = false ∧ ∃ xs, KX kas xs ∧ ∃ es ep, o.ExactDict ∧ o.data = .dict es ep ∧ es.toList = xs.map (entX hk) ∧ (xs.map (·.1)).Nodup
/-- the dict at a, its object o -/
def DXw (hk : Key → Int) (a : Addr) (o : Obj) (kas : KA) : HO := .ext fun h => DX0 hk h a o kas
/-- the keys are tuples -/
def KeysT (K : PySem.W.Frag) (H : Hp) (kas : KA) : Prop := ∀ p ∈ kas, SqT K H p.2.1 (p.1.map kV)
/-- the same with whole numbers and texts as keys -/
def PairsK : List DictEntry → List (Key × Value) → Prop
  | [], [] => True
  | e :: es, p :: ps => keyIs p.1 e.key = true ∧ e.val = p.2 ∧ PairsK es ps
  | _, _ => False
def DK0 (hk : Key → Int) (h : Heap) (a : Addr) (o : Obj) (kvs : List (Key × V)) : Prop := h.get? a = some o ∧ kvs.length ≤ sizeLine ∧ (a == sysModules) = false ∧ ∃ vs, KV kvs vs ∧ ∃ es ep, o.ExactDict ∧ o.data = .dict es ep ∧ (∀ e ∈ es, ∃ k, keyIs k e.key = true ∧ e.hash = hk k) ∧ PairsK es.toList vs ∧ (vs.map (·.1)).Nodup
def DKw (hk : Key → Int) (a : Addr) (o : Obj) (kvs : List (Key × V)) : HO := .ext fun h => DK0 hk h a o kvs
/-! ### data -/
inductive D where
  | non | bl (b : Bool) | int (i : Int) | str (x : Str) | tup (l : List D) | lst (l : List D)
  | dk (ks : List Key) (l : List D) | dt (ks : List (List Key)) (l : List D) | exc (c : Addr) | scr (ns : List Int) | fnc (f : Addr)
/-- keys that are nested tuples: with each key goes its tuple's address -/
abbrev KN := List (NestedKey × Addr × V)
mutual
def backN : NestedKey → D
  | .none => .non
  | .num i => .int i
  | .text x => .str x
  | .tup ks => .tup (backNs ks)
def backNs : List NestedKey → List D
  | [] => []
  | k :: ks => backN k :: backNs ks
end
/-- an error that is kept as a value -/
def EO (c a : Addr) : HO := .ext fun h => ∃ (oe : Obj) (vs : Array Value), h.get? a = some oe ∧ Zc (.ref c) none oe ∧ oe.data = .fields vs
mutual
inductive Rp (K : PySem.W.Frag) (H : Hp) : D → V → Prop
  | non : Rp K H .non .non
  | bl (b : Bool) : Rp K H (.bl b) (.bl b)
  | int (i : Int) : Rp K H (.int i) (.int i)
  | str (x : Str) : Rp K H (.str x) (.str x)
  | lst {a : Addr} {xs : List V} {ds : List D} : H a = some (.lst xs) → RpL K H ds xs → Rp K H (.lst ds) (.ref a)
  | scr {a : Addr} {ns : List Int} : SqL K H a (ns.map V.int) → Rp K H (.scr ns) (.ref a)
  | tup {a : Addr} {xs : List V} {ds : List D} : SqT K H a xs → RpL K H ds xs → Rp K H (.tup ds) (.ref a)
  | dk {a : Addr} {o : Obj} {kvs : List (Key × V)} {ks : List Key} {xs : List V} {ds : List D} : H a = some (DKw TbS.hk a o kvs) → kvs.map (·.1) = ks → kvs.map (·.2) = xs → RpL K H ds xs → Rp K H (.dk ks ds) (.ref a)
  | dt {a : Addr} {o : Obj} {kas : KA} {ks : List (List Key)} {xs : List V} {ds : List D} : H a = some (DXw TbS.hk a o kas) → kas.map (·.1) = ks → KeysT K H kas → kas.map (·.2.2) = xs → RpL K H ds xs → Rp K H (.dt ks ds) (.ref a)
  | exc {a c : Addr} : Rd H a (EO c a) → Rp K H (.exc c) (.ref a)
  | fnc (a : Addr) : Rp K H (.fnc a) (.ref a)
inductive RpL (K : PySem.W.Frag) (H : Hp) : List D → List V → Prop
  | nil : RpL K H [] []
  | cons {v : V} {vs : List V} {d : D} {ds : List D} : Rp K H d v → RpL K H ds vs → RpL K H (d :: ds) (v :: vs)
end
/-- a dict, which a loop may lock -/
def IsD : HO → Prop
  | .dK _ => True
  | .dT _ => True
  | _ => False
/-- what H tells is told by H', for reading -/
def Sub (H H' : Hp) : Prop := ∀ a o, H a = some o → H' a = some o ∨ (IsD o ∧ ∃ q, H' a = some (.frz q o))
def Ex (H H' : Hp) : Prop := ∀ a o, H a = some o → H' a = some o
theorem Ex.refl (H : Hp) : Ex H H := fun _ _ h => h
theorem Ex.trans {H H1 H2 : Hp} (a : Ex H H1) (b : Ex H1 H2) : Ex H H2 := fun x o h => b x o (a x o h)
theorem Ex.new {H : Hp} {p : Addr} {o : HO} (h : H p = none) : Ex H (upd H p o) := fun a u e => by
  rw [upd_ne (ne_of_none e h)]
  exact e
theorem Ex.sub {H H' : Hp} (x : Ex H H') : Sub H H' := fun a o h => Or.inl (x a o h)
def Plain (_ : Hp) : Prop := True
theorem sub_rd {G H : Hp} {a : Addr} {u : HO} (p : Plain G) (e : Sub G H) (h : Rd G a u) : Rd H a u := by
  rcases h with h | ⟨o, h⟩
  · rcases e a _ h with q | ⟨_, o, q⟩
    · exact Or.inl q
    · exact Or.inr ⟨o, q⟩
  · rcases e a _ h with q | ⟨z, _⟩
    · exact Or.inr ⟨o, q⟩
    · exact z.elim
theorem sub_x {G H : Hp} {a : Addr} {p : Heap → Prop} (e : Sub G H) (h : G a = some (.ext p)) : H a = some (.ext p) := by
  rcases e a _ h with q | ⟨z, _⟩
  · exact q
  · exact z.elim
theorem sub_ex {G H : Hp} {a : Addr} {xs : List V} (e : Sub G H) (h : G a = some (.lst xs)) : H a = some (.lst xs) := by
  rcases e a _ h with q | ⟨z, _⟩
  · exact q
  · exact z.elim
section
variable {K : PySem.W.Frag} {H H' : Hp}
theorem sub_l {a : Addr} {xs : List V} (p : Plain H) (e : Sub H H') (h : SqL K H a xs) : SqL K H' a xs := by
  rcases h with h | h
  · exact Or.inl (sub_rd p e h)
  · exact Or.inr h
theorem sub_t {a : Addr} {xs : List V} (p : Plain H) (e : Sub H H') (h : SqT K H a xs) : SqT K H' a xs := by
  rcases h with h | h
  · exact Or.inl (sub_rd p e h)
  · exact Or.inr h
theorem KeysT.sub {kas : KA} (p : Plain H) (e : Sub H H') (h : KeysT K H kas) : KeysT K H' kas := fun q hq => sub_t p e (h q hq)
mutual
theorem Rp.sub (p : Plain H) (e : Sub H H') : ∀ (d : D) (v : V), Rp K H d v → Rp K H' d v
  | _, _, .non => .non
  | _, _, .bl b => .bl b
  | _, _, .int i => .int i
  | _, _, .str x => .str x
  | _, _, .lst h q => .lst (sub_ex e h) (RpL.sub p e _ _ q)
  | _, _, .scr h => .scr (sub_l p e h)
  | _, _, .tup h q => .tup (sub_t p e h) (RpL.sub p e _ _ q)
  | _, _, .dk h l m q => .dk (sub_x e h) l m (RpL.sub p e _ _ q)
  | _, _, .dt h l k m q => .dt (sub_x e h) l (k.sub p e) m (RpL.sub p e _ _ q)
  | _, _, .exc h => .exc (sub_rd p e h)
  | _, _, .fnc a => .fnc a
theorem RpL.sub (p : Plain H) (e : Sub H H') : ∀ (ds : List D) (vs : List V), RpL K H ds vs → RpL K H' ds vs
  | _, _, .nil => .nil
  | _, _, .cons h q => .cons (Rp.sub p e _ _ h) (RpL.sub p e _ _ q)
end
theorem ex_rd {a : Addr} {u : HO} (e : Ex H H') (h : Rd H a u) : Rd H' a u := by
  rcases h with h | ⟨o, h⟩
  · exact Or.inl (e a _ h)
  · exact Or.inr ⟨o, e a _ h⟩
theorem ex_l {a : Addr} {xs : List V} (e : Ex H H') (h : SqL K H a xs) : SqL K H' a xs := by
  rcases h with h | h
  · exact Or.inl (ex_rd e h)
  · exact Or.inr h
theorem ex_t {a : Addr} {xs : List V} (e : Ex H H') (h : SqT K H a xs) : SqT K H' a xs := by
  rcases h with h | h
  · exact Or.inl (ex_rd e h)
  · exact Or.inr h
theorem KeysT.mono {kas : KA} (h : KeysT K H kas) (e : Ex H H') : KeysT K H' kas := fun q hq => ex_t e (h q hq)
mutual
theorem Rp.mono' (e : Ex H H') : ∀ (d : D) (v : V), Rp K H d v → Rp K H' d v
  | _, _, .non => .non
  | _, _, .bl b => .bl b
  | _, _, .int i => .int i
  | _, _, .str x => .str x
  | _, _, .lst h q => .lst (e _ _ h) (RpL.mono' e _ _ q)
  | _, _, .scr h => .scr (ex_l e h)
  | _, _, .tup h q => .tup (ex_t e h) (RpL.mono' e _ _ q)
  | _, _, .dk h l m q => .dk (e _ _ h) l m (RpL.mono' e _ _ q)
  | _, _, .dt h l k m q => .dt (e _ _ h) l (k.mono e) m (RpL.mono' e _ _ q)
  | _, _, .exc h => .exc (ex_rd e h)
  | _, _, .fnc a => .fnc a
theorem RpL.mono' (e : Ex H H') : ∀ (ds : List D) (vs : List V), RpL K H ds vs → RpL K H' ds vs
  | _, _, .nil => .nil
  | _, _, .cons h q => .cons (Rp.mono' e _ _ h) (RpL.mono' e _ _ q)
end
theorem Rp.mono {d : D} {v : V} (h : Rp K H d v) (e : Ex H H') : Rp K H' d v := Rp.mono' e d v h
theorem RpL.mono {d : List D} {v : List V} (h : RpL K H d v) (e : Ex H H') : RpL K H' d v := RpL.mono' e d v h
theorem RpL.length {ds : List D} : ∀ {vs : List V}, RpL K H ds vs → ds.length = vs.length := by
  induction ds with
  | nil => intro vs h; cases h; rfl
  | cons d ds ih => intro vs h; cases h with | cons _ q => exact congrArg Nat.succ (ih q)
theorem RpL.append {ds es : List D} : ∀ {vs us : List V}, RpL K H ds vs → RpL K H es us → RpL K H (ds ++ es) (vs ++ us) := by
  induction ds with
  | nil => intro vs us h q; cases h; exact q
  | cons d ds ih => intro vs us h q; cases h with | cons h1 h2 => exact .cons h1 (ih h2 q)
theorem RpL.get {ds : List D} : ∀ {vs : List V} {i : Nat} {d : D}, RpL K H ds vs → ds[i]? = some d → ∃ v, vs[i]? = some v ∧ Rp K H d v := by
  induction ds with
  | nil => intro vs i d h e; cases e
  | cons d ds ih =>
    intro vs i d' h e
    cases h with | cons h1 h2 =>
      cases i with
      | zero => cases e; exact ⟨_, rfl, h1⟩
      | succ i =>
        obtain ⟨v, z1, z2⟩ := ih (i := i) h2 (by simpa using e)
        exact ⟨v, by simpa using z1, z2⟩
theorem RpL.take {ds : List D} : ∀ {vs : List V} (n : Nat), RpL K H ds vs → RpL K H (ds.take n) (vs.take n) := by
  induction ds with
  | nil => intro vs n h; cases h; simp; exact .nil
  | cons d ds ih => intro vs n h; cases h with | cons h1 h2 => cases n with
    | zero => exact .nil
    | succ n => exact .cons h1 (ih n h2)
theorem RpL.drop {ds : List D} : ∀ {vs : List V} (n : Nat), RpL K H ds vs → RpL K H (ds.drop n) (vs.drop n) := by
  induction ds with
  | nil => intro vs n h; cases h; simp; exact .nil
  | cons d ds ih => intro vs n h; cases h with | cons h1 h2 => cases n with
    | zero => exact .cons h1 h2
    | succ n => exact ih n h2
theorem RpL.reverse {ds : List D} : ∀ {vs : List V}, RpL K H ds vs → RpL K H ds.reverse vs.reverse := by
  induction ds with
  | nil => intro vs h; cases h; exact .nil
  | cons d ds ih => intro vs h; cases h with | cons h1 h2 => rw [List.reverse_cons, List.reverse_cons]; exact (ih h2).append (.cons h1 .nil)
end
/-! ### what a slot holds: its own trees of lists, and shared data -/
inductive T where
  | un | fz (d : D) | ls (l : List T) | tp (l : List T) | dk (ks : List Key) (l : List D) | dt (ks : List (List Key)) (l : List D)
  | ob (C : Addr) (ns : List Str) (l : List T) | st (ks : List (List Int)) | dn (ks : List NestedKey) (l : List T)
abbrev Fp := Addr → Prop
mutual
def T.data : T → Option D
  | .un => none
  | .fz d => some d
  | .ls l => (dataL l).map .lst
  | .tp l => (dataL l).map .tup
  | .dk ks l => some (.dk ks l)
  | .dt ks l => some (.dt ks l)
  | .ob _ _ _ => none
  | .st _ => none
  | .dn _ _ => none
def dataL : List T → Option (List D)
  | [] => some []
  | t :: l => t.data.bind fun d => (dataL l).map (d :: ·)
end
mutual
inductive Rt (K : PySem.W.Frag) (G H : Hp) : T → Option V → Fp → Prop
  | un {x : Option V} {f : Fp} : Rt K G H .un x f
  | fz {d : D} {v : V} {f : Fp} : Rp K G d v → Rt K G H (.fz d) (some v) f
  | ls {a : Addr} {vs : List V} {l : List T} {f g : Fp} : f a → H a = some (.lst vs) → RtL K G H l (vs.map some) g → (∀ b, g b → f b ∧ b ≠ a) → Rt K G H (.ls l) (some (.ref a)) f
  | tp {a : Addr} {vs : List V} {l : List T} {f g : Fp} : f a → H a = some (.tup vs) → RtL K G H l (vs.map some) g → (∀ b, g b → f b ∧ b ≠ a) → Rt K G H (.tp l) (some (.ref a)) f
  | dk {a : Addr} {o : Obj} {kvs : List (Key × V)} {ks : List Key} {vs : List V} {l : List D} {f : Fp} : f a → H a = some (DKw TbS.hk a o kvs) → kvs.map (·.1) = ks → kvs.map (·.2) = vs → RpL K G l vs → Rt K G H (.dk ks l) (some (.ref a)) f
  | dt {a : Addr} {o : Obj} {kas : KA} {ks : List (List Key)} {vs : List V} {l : List D} {f : Fp} : f a → H a = some (DXw TbS.hk a o kas) → kas.map (·.1) = ks → KeysT K G kas → kas.map (·.2.2) = vs → RpL K G l vs → Rt K G H (.dt ks l) (some (.ref a)) f
  | ob {a dx C : Addr} {ns : List Str} {vs : List V} {l : List T} {f g : Fp} : f a → f dx → dx ≠ a → H a = some (.ins C dx (ns.zip vs)) → H dx = some (.own a) → ns.length = vs.length → Cls K C → (∀ n ∈ ns, NoAttr K C n) → ns.Nodup → RtL K G H l (vs.map some) g → (∀ b, g b → f b ∧ b ≠ a ∧ b ≠ dx) → Rt K G H (.ob C ns l) (some (.ref a)) f
  | st {a : Addr} {L : List (Addr × List Int)} {ks : List (List Int)} {f : Fp} : f a → H a = some (TbS.so a L) → L.map (·.2) = ks → (∀ p ∈ L, SqT K G p.1 (p.2.map V.int)) → Rt K G H (.st ks) (some (.ref a)) f
  | dn {a : Addr} {o : Obj} {kas : KN} {ks : List NestedKey} {vs : List V} {l : List T} {f g : Fp} : f a → H a = some (TbS.sn a o kas) → kas.map (·.1) = ks → (∀ p ∈ kas, Rp K G (backN p.1) (.ref p.2.1)) → kas.map (·.2.2) = vs → RtL K G H l (vs.map some) g → (∀ b, g b → f b ∧ b ≠ a) → ks.Nodup → Rt K G H (.dn ks l) (some (.ref a)) f
inductive RtL (K : PySem.W.Frag) (G H : Hp) : List T → List (Option V) → Fp → Prop
  | nil {f : Fp} : RtL K G H [] [] f
  | cons {t : T} {x : Option V} {ts : List T} {xs : List (Option V)} {f g h : Fp} : Rt K G H t x g → RtL K G H ts xs h → (∀ b, g b → f b) → (∀ b, h b → f b) → (∀ b, g b → ¬ h b) → RtL K G H (t :: ts) (x :: xs) f
end
section
variable {K : PySem.W.Frag} {G G' H H' : Hp}
theorem Rt.weak {t : T} {x : Option V} {f f' : Fp} (h : Rt K G H t x f) (w : ∀ b, f b → f' b) : Rt K G H t x f' := by
  cases h with
  | un => exact .un
  | fz h => exact .fz h
  | ls h1 h2 h3 h4 => exact .ls (w _ h1) h2 h3 fun b hb => ⟨w b (h4 b hb).1, (h4 b hb).2⟩
  | tp h1 h2 h3 h4 => exact .tp (w _ h1) h2 h3 fun b hb => ⟨w b (h4 b hb).1, (h4 b hb).2⟩
  | dk h1 h2 h3 h4 h5 => exact .dk (w _ h1) h2 h3 h4 h5
  | dt h1 h2 h3 h4 h5 h6 => exact .dt (w _ h1) h2 h3 h4 h5 h6
  | ob h1 h2 h3 h4 h5 h6 h7 h8 h9 h10 h11 => exact .ob (w _ h1) (w _ h2) h3 h4 h5 h6 h7 h8 h9 h10 fun b hb => ⟨w b (h11 b hb).1, (h11 b hb).2⟩
  | st h1 h2 h3 h4 => exact .st (w _ h1) h2 h3 h4
  | dn h1 h2 h3 h4 h5 h6 h7 h8 => exact .dn (w _ h1) h2 h3 h4 h5 h6 (fun b hb => ⟨w b (h7 b hb).1, (h7 b hb).2⟩) h8
theorem RtL.weak {t : List T} {x : List (Option V)} {f f' : Fp} (h : RtL K G H t x f) (w : ∀ b, f b → f' b) : RtL K G H t x f' := by
  cases h with
  | nil => exact .nil
  | cons h1 h2 h3 h4 h5 => exact .cons h1 h2 (fun b hb => w b (h3 b hb)) (fun b hb => w b (h4 b hb)) h5
mutual
theorem Rt.frame' (e : Ex G G') : ∀ (t : T) (x : Option V) (f : Fp), Rt K G H t x f → (∀ b, f b → H' b = H b) → Rt K G' H' t x f
  | _, _, _, .un, _ => .un
  | _, _, _, .fz h, _ => .fz (h.mono e)
  | _, _, _, .ls h1 h2 h3 h4, k => .ls h1 ((k _ h1).trans h2) (RtL.frame' e _ _ _ h3 fun b hb => k b (h4 b hb).1) h4
  | _, _, _, .tp h1 h2 h3 h4, k => .tp h1 ((k _ h1).trans h2) (RtL.frame' e _ _ _ h3 fun b hb => k b (h4 b hb).1) h4
  | _, _, _, .dk h1 h2 h3 h4 h5, k => .dk h1 ((k _ h1).trans h2) h3 h4 (h5.mono e)
  | _, _, _, .dt h1 h2 h3 h4 h5 h6, k => .dt h1 ((k _ h1).trans h2) h3 (h4.mono e) h5 (h6.mono e)
  | _, _, _, .ob h1 h2 h3 h4 h5 h6 h7 h8 h9 h10 h11, k => .ob h1 h2 h3 ((k _ h1).trans h4) ((k _ h2).trans h5) h6 h7 h8 h9 (RtL.frame' e _ _ _ h10 fun b hb => k b (h11 b hb).1) h11
  | _, _, _, .st h1 h2 h3 h4, k => .st h1 ((k _ h1).trans h2) h3 fun p hp => ex_t e (h4 p hp)
  | _, _, _, .dn h1 h2 h3 h4 h5 h6 h7 h8, k => .dn h1 ((k _ h1).trans h2) h3 (fun p hp => (h4 p hp).mono e) h5 (RtL.frame' e _ _ _ h6 fun b hb => k b (h7 b hb).1) h7 h8
theorem RtL.frame' (e : Ex G G') : ∀ (t : List T) (x : List (Option V)) (f : Fp), RtL K G H t x f → (∀ b, f b → H' b = H b) → RtL K G' H' t x f
  | _, _, _, .nil, _ => .nil
  | _, _, _, .cons h1 h2 h3 h4 h5, k => .cons (Rt.frame' e _ _ _ h1 fun b hb => k b (h3 b hb)) (RtL.frame' e _ _ _ h2 fun b hb => k b (h4 b hb)) h3 h4 h5
end
theorem Rt.frame {t : T} {x : Option V} {f : Fp} (h : Rt K G H t x f) (e : Ex G G') (k : ∀ b, f b → H' b = H b) : Rt K G' H' t x f := Rt.frame' e t x f h k
theorem RtL.frame {t : List T} {x : List (Option V)} {f : Fp} (h : RtL K G H t x f) (e : Ex G G') (k : ∀ b, f b → H' b = H b) : RtL K G' H' t x f := RtL.frame' e t x f h k
/-! its own things are shared from now on -/
mutual
theorem Rt.ice' (e : Ex G G') : ∀ (t : T) (x : Option V) (f : Fp), Rt K G H t x f → (∀ b o, f b → H b = some o → (∀ q u, o ≠ .frz q u) → G' b = some o) → ∀ d, t.data = some d → ∃ v, x = some v ∧ Rp K G' d v
  | _, _, _, .un, _, d, z => by unfold T.data at z; cases z
  | _, _, _, .fz h, _, d, z => by unfold T.data at z; cases z; exact ⟨_, rfl, h.mono e⟩
  | _, _, _, .ls h1 h2 h3 h4, k, d, z => by
    unfold T.data at z
    obtain ⟨ds, z1, z2⟩ := Option.map_eq_some_iff.mp z
    subst z2
    exact ⟨_, rfl, .lst (k _ _ h1 h2 (fun _ _ z => HO.noConfusion z)) (RtL.ice' e _ _ _ h3 (fun b o hb => k b o (h4 b hb).1) ds z1 _ rfl)⟩
  | _, _, _, .tp h1 h2 h3 h4, k, d, z => by
    unfold T.data at z
    obtain ⟨ds, z1, z2⟩ := Option.map_eq_some_iff.mp z
    subst z2
    exact ⟨_, rfl, .tup (Or.inl (Or.inl (k _ _ h1 h2 (fun _ _ z => HO.noConfusion z)))) (RtL.ice' e _ _ _ h3 (fun b o hb => k b o (h4 b hb).1) ds z1 _ rfl)⟩
  | _, _, _, .dk h1 h2 h3 h4 h5, k, d, z => by unfold T.data at z; cases z; exact ⟨_, rfl, .dk (k _ _ h1 h2 (fun _ _ z => HO.noConfusion z)) h3 h4 (h5.mono e)⟩
  | _, _, _, .dt h1 h2 h3 h4 h5 h6, k, d, z => by unfold T.data at z; cases z; exact ⟨_, rfl, .dt (k _ _ h1 h2 (fun _ _ z => HO.noConfusion z)) h3 (h4.mono e) h5 (h6.mono e)⟩
  | _, _, _, .ob _ _ _ _ _ _ _ _ _ _ _, k, d, z => by unfold T.data at z; cases z
  | _, _, _, .st _ _ _ _, k, d, z => by unfold T.data at z; cases z
  | _, _, _, .dn _ _ _ _ _ _ _ _, k, d, z => by unfold T.data at z; cases z
theorem RtL.ice' (e : Ex G G') : ∀ (t : List T) (x : List (Option V)) (f : Fp), RtL K G H t x f → (∀ b o, f b → H b = some o → (∀ q u, o ≠ .frz q u) → G' b = some o) → ∀ ds, dataL t = some ds → ∀ vs : List V, x = vs.map some → RpL K G' ds vs
  | _, _, _, .nil, _, d, z, vs, ev => by
    unfold dataL at z
    cases z
    cases vs with
    | nil => exact .nil
    | cons v vs => cases ev
  | _, _, _, .cons h1 h2 h3 h4 h5, k, d, z, vs, ev => by
    unfold dataL at z
    obtain ⟨d1, z1, z2⟩ := Option.bind_eq_some_iff.mp z
    obtain ⟨ds, z3, z4⟩ := Option.map_eq_some_iff.mp z2
    subst z4
    cases vs with
    | nil => cases ev
    | cons v vs =>
      obtain ⟨e1, e2⟩ := List.cons.inj ev
      obtain ⟨v', e3, q⟩ := Rt.ice' e _ _ _ h1 (fun b o hb => k b o (h3 b hb)) d1 z1
      rw [e1] at e3
      cases e3
      exact .cons q (RtL.ice' e _ _ _ h2 (fun b o hb => k b o (h4 b hb)) ds z3 vs e2)
end
theorem RtL.length {t : List T} : ∀ {x : List (Option V)} {f : Fp}, RtL K G H t x f → t.length = x.length := by
  induction t with
  | nil => intro x f h; cases h; rfl
  | cons t ts ih => intro x f h; cases h with | cons _ h2 _ _ _ => exact congrArg Nat.succ (ih h2)
theorem RtL.app {t2 : List T} {y : List (Option V)} {g : Fp} (h2 : RtL K G H t2 y g) {t1 : List T} : ∀ {x : List (Option V)} {f : Fp}, RtL K G H t1 x f → (∀ b, f b → ¬ g b) → RtL K G H (t1 ++ t2) (x ++ y) (fun b => f b ∨ g b) := by
  induction t1 with
  | nil => intro x f h1 d; cases h1; exact h2.weak fun b hb => Or.inr hb
  | cons t ts ih =>
    intro x f h1 d
    cases h1 with | cons a1 a2 a3 a4 a5 =>
      exact .cons a1 (ih a2 fun b hb => d b (a4 b hb)) (fun b hb => Or.inl (a3 b hb)) (fun b hb => hb.elim (fun z => Or.inl (a4 b z)) Or.inr) (fun b hb z => z.elim (a5 b hb) (d b (a3 b hb)))
theorem RtL.split {t2 : List T} {y : List (Option V)} {t1 : List T} : ∀ {x : List (Option V)} {f : Fp}, RtL K G H (t1 ++ t2) (x ++ y) f → t1.length = x.length → ∃ g h : Fp, RtL K G H t1 x g ∧ RtL K G H t2 y h ∧ (∀ b, g b → f b) ∧ (∀ b, h b → f b) ∧ ∀ b, g b → ¬ h b := by
  induction t1 with
  | nil =>
    intro x f h l
    cases x with
    | nil => exact ⟨fun _ => False, f, .nil, h, fun b hb => hb.elim, fun b hb => hb, fun b hb => hb.elim⟩
    | cons _ _ => cases l
  | cons t ts ih =>
    intro x f h l
    cases x with
    | nil => cases l
    | cons x xs =>
      cases h with | @cons _ _ _ _ _ g1 h1 a1 a2 a3 a4 a5 =>
        obtain ⟨g, h, b1, b2, b3, b4, b5⟩ := ih a2 (Nat.succ.inj l)
        refine ⟨fun b => g1 b ∨ g b, h, .cons a1 b1 (fun b hb => Or.inl hb) (fun b hb => Or.inr hb) (fun b hb z => a5 b hb (b3 b z)), b2, fun b hb => hb.elim (a3 b) fun z => a4 b (b3 b z), fun b hb => a4 b (b4 b hb), fun b hb z => hb.elim (fun q => a5 b q (b4 b z)) fun q => b5 b q z⟩
/-- one place of a list, and another thing in it -/
theorem RtL.at {t : T} {ts : List T} : ∀ {x : List (Option V)} {f : Fp} {i : Nat}, RtL K G H ts x f → ts[i]? = some t → ∃ (y : Option V) (g h : Fp), x[i]? = some y ∧ Rt K G H t y g ∧ (∀ b, g b → f b) ∧ (∀ b, h b → f b) ∧ (∀ b, g b → ¬ h b) ∧
    ∀ (G' H' : Hp) (t' : T) (y' : Option V) (g' : Fp), Ex G G' → (∀ b, h b → H' b = H b) → Rt K G' H' t' y' g' → (∀ b, g' b → ¬ h b) → RtL K G' H' (ts.set i t') (x.set i y') (fun b => g' b ∨ h b) := by
  induction ts with
  | nil => intro x f i h e; cases e
  | cons t0 ts ih =>
    intro x f i h e
    cases h with | @cons _ x0 _ xs _ g0 h0 a1 a2 a3 a4 a5 =>
      cases i with
      | zero =>
        cases e
        refine ⟨x0, g0, h0, rfl, a1, a3, a4, a5, fun G' H' t' y' g' eg k r d => ?_⟩
        exact .cons r (a2.frame eg k) (fun b hb => Or.inl hb) (fun b hb => Or.inr hb) d
      | succ i =>
        obtain ⟨y, g, h, b1, b2, b3, b4, b5, b6⟩ := ih (i := i) a2 e
        refine ⟨y, g, fun b => g0 b ∨ h b, b1, b2, fun b hb => a4 b (b3 b hb), fun b hb => hb.elim (a3 b) fun z => a4 b (b4 b z), fun b hb z => z.elim (fun q => a5 b q (b3 b hb)) (b5 b hb), fun G' H' t' y' g' eg k r d => ?_⟩
        exact .cons (g := g0) (h := fun b => g' b ∨ h b) (a1.frame eg fun b hb => k b (Or.inl hb)) (b6 G' H' t' y' g' eg (fun b hb => k b (Or.inr hb)) r fun b hb z => d b hb (Or.inr z)) (fun b hb => Or.inr (Or.inl hb))
          (fun b hb => hb.elim Or.inl fun z => Or.inr (Or.inr z)) (fun b hb z => z.elim (fun q => d b q (Or.inl hb)) fun q => a5 b hb (b4 b q))
end
/-! ### the state of a frame -/
structure Fx where
  B : Hp
  G0 : Hp
  L : Fp
def Own (F : Fx) (G H : Hp) (f : Fp) : Prop := ∀ b, f b → G b = none ∧ H b ≠ none ∧ (F.B b = none ∨ F.L b) ∧ ¬ TbS.tb b
structure SI (K : PySem.W.Frag) (F : Fx) (G H : Hp) (r : List T) (x : List (Option V)) : Prop where
  own : ∃ f : Fp, RtL K G H r x f ∧ Own F G H f
  keep : ∀ a o, F.B a = some o → ¬ F.L a → ¬ TbS.tb a → H a = some o
  tab : ∀ a, TbS.tb a → GxR.TabG H a
  gtb : ∀ a, TbS.tb a → G a = none
  inn : ∀ a, F.L a → H a ≠ none
  g0 : Ex F.G0 G
  gh : Sub G H
  pl : Plain G
  gn : ∀ a o, G a = some o → F.G0 a = some o ∨ F.B a = none ∨ F.L a
section
variable {K : PySem.W.Frag} {F : Fx} {G G' H H' : Hp} {r r' : List T} {x x' : List (Option V)}
theorem SI.len (I : SI K F G H r x) : r.length = x.length := by
  obtain ⟨f, h, _⟩ := I.own
  exact h.length
theorem SI.Bnone (I : SI K F G H r x) {p : Addr} (h : H p = none) : F.B p = none := by
  cases hb : F.B p with
  | none => rfl
  | some o =>
    by_cases c : F.L p
    · exact absurd h (I.inn p c)
    · by_cases t : TbS.tb p
      · obtain ⟨_, z, _⟩ := I.tab p t
        rw [h] at z; cases z
      · rw [I.keep p o hb c t] at h; cases h
theorem SI.Gnone (I : SI K F G H r x) {p : Addr} (h : H p = none) : G p = none := by
  cases hb : G p with
  | none => rfl
  | some o =>
    rcases I.gh p o hb with q | ⟨_, _, q⟩ <;> (rw [h] at q; cases q)
/-- a step in which the tables may have grown -/
theorem SI.nextT (I : SI K F G H r x) (f : Fp) (hf : Own F G H f) (e1 : Ex G G') (e2 : Sub G' H') (e3 : Plain G') (kp : ∀ a o, H a = some o → ¬ f a → ¬ TbS.tb a → H' a = some o) (tb : ∀ a, TbS.tb a → GxR.TabG H' a) (lv : ∀ a, H a ≠ none → H' a ≠ none)
    (gn : ∀ a o, G' a = some o → G a = some o ∨ f a ∨ H a = none) {f' : Fp} (hr : RtL K G' H' r' x' f') (hf' : ∀ b, f' b → G' b = none ∧ H' b ≠ none ∧ (f b ∨ H b = none)) : SI K F G' H' r' x' := by
  have tn : ∀ a, TbS.tb a → H a ≠ none := fun a t z => by
    obtain ⟨_, q, _⟩ := I.tab a t
    rw [z] at q; cases q
  refine ⟨⟨f', hr, fun b hb => ⟨(hf' b hb).1, (hf' b hb).2.1, (hf' b hb).2.2.elim (fun z => (hf b z).2.2.1) fun z => Or.inl (I.Bnone z), (hf' b hb).2.2.elim (fun z => (hf b z).2.2.2) fun z t => tn b t z⟩⟩, fun a o e c t => ?_, tb, fun a t => ?_, fun a c => lv a (I.inn a c), I.g0.trans e1, e2, e3, fun a o e => ?_⟩
  · refine kp a o (I.keep a o e c t) (fun z => ?_) t
    rcases (hf a z).2.2.1 with q | q
    · rw [e] at q; cases q
    · exact c q
  · cases q : G' a with
    | none => rfl
    | some o =>
      rcases gn a o q with z | z | z
      · rw [I.gtb a t] at z; cases z
      · exact absurd t (hf a z).2.2.2
      · exact absurd z (tn a t)
  · rcases gn a o e with q | q | q
    · exact I.gn a o q
    · exact Or.inr ((hf a q).2.2.1)
    · exact Or.inr (Or.inl (I.Bnone q))
/-- a step -/
theorem SI.next (I : SI K F G H r x) (f : Fp) (hf : Own F G H f) (e1 : Ex G G') (e2 : Sub G' H') (e3 : Plain G') (kp : ∀ a o, H a = some o → ¬ f a → H' a = some o) (lv : ∀ a, H a ≠ none → H' a ≠ none)
    (gn : ∀ a o, G' a = some o → G a = some o ∨ f a ∨ H a = none) {f' : Fp} (hr : RtL K G' H' r' x' f') (hf' : ∀ b, f' b → G' b = none ∧ H' b ≠ none ∧ (f b ∨ H b = none)) : SI K F G' H' r' x' :=
  I.nextT f hf e1 e2 e3 (fun a o e c _ => kp a o e c) (fun a t => by
    obtain ⟨ps, q, z⟩ := I.tab a t
    exact ⟨ps, kp a _ q fun c => (hf a c).2.2.2 t, z⟩) lv gn hr hf'
/-- only the holdings are told otherwise -/
theorem SI.same (I : SI K F G H r x) {f : Fp} (hf : Own F G H f) {f' : Fp} (hr : RtL K G H r' x' f') (w : ∀ b, f' b → f b) : SI K F G H r' x' :=
  I.next f hf (Ex.refl G) I.gh I.pl (fun a o e _ => e) (fun a h => h) (fun a o e => Or.inl e) hr (fun b hb => ⟨(hf b (w b hb)).1, (hf b (w b hb)).2.1, Or.inl (w b hb)⟩)
/-- a new thing at p, shared at once -/
theorem Sub.both {G H : Hp} {p : Addr} {o : HO} (e : Sub G H) (h : H p = none) : Sub (upd G p o) (upd H p o) := fun a u ha => by
  by_cases c : a = p
  · subst c
    rw [upd_same] at ha
    cases ha
    exact Or.inl upd_same
  · rw [upd_ne c] at ha
    rw [upd_ne c]
    exact e a u ha
theorem Plain.new {G : Hp} {p : Addr} {o : HO} (h : Plain G) (ho : ∀ q u, o ≠ .frz q u) : Plain (upd G p o) := trivial
theorem SI.laid (I : SI K F G H r x) {p : Addr} {o : HO} (h : H p = none) (ho : ∀ q u, o ≠ .frz q u) : SI K F (upd G p o) (upd H p o) r x := by
  obtain ⟨f, hr, hf⟩ := I.own
  have hg := I.Gnone h
  have np : ∀ b, f b → b ≠ p := fun b hb z => by subst z; exact (hf b hb).2.1 h
  refine I.next f hf (Ex.new hg) (I.gh.both h) (I.pl.new ho) (fun a u e _ => by rw [upd_ne (ne_of_none e h)]; exact e) (fun a ha => ?_) (fun a u e => ?_) (hr.frame (Ex.new hg) fun b hb => upd_ne (np b hb))
    (fun b hb => ⟨by rw [upd_ne (np b hb)]; exact (hf b hb).1, by rw [upd_ne (np b hb)]; exact (hf b hb).2.1, Or.inl hb⟩)
  · rw [upd_ne (fun z => ha (by rw [z]; exact h))]; exact ha
  · by_cases c : a = p
    · subst c; exact Or.inr (Or.inr h)
    · rw [upd_ne c] at e; exact Or.inl e
end
end Q
set_option Elab.async false
set_option linter.all false
set_option maxRecDepth 100000
set_option maxHeartbeats 2000000
namespace Q
open PySem PySem.Spec PyProof.Rows L2
variable [TbS]
open Classical in
noncomputable def mix (G : Hp) (g : Fp) (H : Hp) : Hp := fun b => if g b ∧ (∀ q u, H b ≠ some (.frz q u)) then H b else G b
theorem mix_in {G H : Hp} {g : Fp} {b : Addr} {o : HO} (hg : g b) (h : H b = some o) (ho : ∀ q u, o ≠ .frz q u) : mix G g H b = some o := by
  unfold mix
  rw [if_pos ⟨hg, fun q u z => ho q u (by rw [h] at z; exact Option.some.inj z)⟩, h]
theorem mix_out {G H : Hp} {g : Fp} {b : Addr} (hg : ¬ g b) : mix G g H b = G b := by
  unfold mix
  rw [if_neg fun z => hg z.1]
theorem mix_cases {G H : Hp} {g : Fp} {b : Addr} {o : HO} (h : mix G g H b = some o) : (g b ∧ H b = some o ∧ ∀ q u, o ≠ .frz q u) ∨ G b = some o := by
  unfold mix at h
  split at h
  · rename_i c
    exact Or.inl ⟨c.1, h, fun q u z => c.2 q u (by rw [h, z])⟩
  · exact Or.inr h
theorem set_same {α : Type} : ∀ {l : List α} {i : Nat} {a : α}, l[i]? = some a → l.set i a = l
  | [], _, _, h => by cases h
  | x :: l, 0, a, h => by cases h; rfl
  | x :: l, i + 1, a, h => by
    rw [List.set_cons_succ, set_same (by simpa using h)]
section
variable {K : PySem.W.Frag} {F : Fx} {G G' H H' : Hp} {r r' : List T} {x x' : List (Option V)}
/-- the thing in a place is shared from now on -/
theorem SI.iceAt (I : SI K F G H r x) {i : Nat} {t : T} {d : D} (e : r[i]? = some t) (hd : t.data = some d) : ∃ G' v, x[i]? = some (some v) ∧ Ex G G' ∧ SI K F G' H (r.set i (.fz d)) x ∧ Rp K G' d v := by
  obtain ⟨f, hr, hf⟩ := I.own
  obtain ⟨y, g, h, b1, b2, b3, b4, b5, b6⟩ := hr.at e
  have eg : Ex G (mix G g H) := fun b o hb => by
    rw [mix_out fun z => by rw [(hf b (b3 b z)).1] at hb; cases hb]
    exact hb
  obtain ⟨v, rfl, q⟩ := Rt.ice' eg t y g b2 (fun b o hb => mix_in hb) d hd
  refine ⟨mix G g H, v, b1, eg, ?_, q⟩
  have hr' := b6 (mix G g H) H (.fz d) (some v) (fun _ => False) eg (fun _ _ => rfl) (.fz q) (fun b hb => hb.elim)
  rw [set_same b1] at hr'
  refine I.next f hf eg (fun b o hb => ?_) trivial (fun a o e _ => e) (fun a z => z) (fun a o e => ?_) hr' (fun b hb => ?_)
  · rcases mix_cases hb with ⟨_, q, _⟩ | q
    · exact Or.inl q
    · exact I.gh b o q
  · rcases mix_cases e with ⟨q, _, _⟩ | q
    · exact Or.inr (Or.inl (b3 a q))
    · exact Or.inl q
  · rcases hb with z | z
    · exact z.elim
    · have := hf b (b4 b z)
      exact ⟨by rw [mix_out fun w => b5 b w z]; exact this.1, this.2.1, Or.inl (b4 b z)⟩
theorem SI.drop {t : List T} {y : List (Option V)} (I : SI K F G H (r ++ t) (x ++ y)) (hl : r.length = x.length) : SI K F G H r x := by
  obtain ⟨f, hr, hf⟩ := I.own
  obtain ⟨g, h, h1, h2, h3, h4, h5⟩ := hr.split hl
  exact I.same hf h1 h3
/-- shared things more -/
theorem RtL.fzs {l : List D} : ∀ {vs : List V}, RpL K G l vs → RtL K G H (l.map .fz) (vs.map some) (fun _ => False) := by
  induction l with
  | nil => intro vs h; cases h; exact .nil
  | cons d l ih => intro vs h; cases h with | cons h1 h2 => exact .cons (g := fun _ => False) (h := fun _ => False) (.fz h1) (ih h2) (fun b hb => hb) (fun b hb => hb) (fun b hb => hb.elim)
theorem SI.fzs (I : SI K F G H r x) {l : List D} {vs : List V} (h : RpL K G l vs) : SI K F G H (r ++ l.map .fz) (x ++ vs.map some) := by
  obtain ⟨f, hr, hf⟩ := I.own
  exact I.same hf ((RtL.fzs h).app hr fun b _ z => z) fun b hb => hb.elim (fun z => z) fun z => z.elim
/-- a new list of the last ones -/
theorem SI.pack {ts : List T} {vs : List V} (I : SI K F G H (r ++ ts) (x ++ vs.map some)) (hl : r.length = x.length) {p : Addr} (h : H p = none) : SI K F G (upd H p (.lst vs)) (r ++ [.ls ts]) (x ++ [some (.ref p)]) := by
  obtain ⟨f, hr, hf⟩ := I.own
  obtain ⟨g, k, h1, h2, h3, h4, h5⟩ := hr.split hl
  have np : ∀ b, f b → b ≠ p := fun b hb z => by subst z; exact (hf b hb).2.1 h
  have s1 : RtL K G (upd H p (.lst vs)) r x g := h1.frame (Ex.refl G) fun b hb => upd_ne (np b (h3 b hb))
  have s2 : RtL K G (upd H p (.lst vs)) ts (vs.map some) k := h2.frame (Ex.refl G) fun b hb => upd_ne (np b (h4 b hb))
  have s3 : RtL K G (upd H p (.lst vs)) [.ls ts] [some (.ref p)] (fun b => b = p ∨ k b) := .cons (.ls (Or.inl rfl) upd_same s2 fun b hb => ⟨Or.inr hb, np b (h4 b hb)⟩) (h := fun _ => False) .nil (fun b hb => hb) (fun b hb => hb.elim) (fun b _ z => z)
  refine I.next f hf (Ex.refl G) (fun a o e => ?_) I.pl (fun a o e _ => by rw [upd_ne (ne_of_none e h)]; exact e) (fun a ha => ?_) (fun a o e => Or.inl e) (s3.app s1 fun b hb z => z.elim (np b (h3 b hb)) (h5 b hb)) (fun b hb => ?_)
  · have : a ≠ p := fun z => by subst z; rw [I.Gnone h] at e; cases e
    rw [upd_ne this]
    exact I.gh a o e
  · rw [upd_ne (fun z => ha (by rw [z]; exact h))]; exact ha
  · have fin : f b → G b = none ∧ upd H p (.lst vs) b ≠ none ∧ (f b ∨ H b = none) := fun hb => ⟨(hf b hb).1, by rw [upd_ne (np b hb)]; exact (hf b hb).2.1, Or.inl hb⟩
    rcases hb with z | z | z
    · exact fin (h3 b z)
    · subst z
      exact ⟨I.Gnone h, by rw [upd_same]; exact Option.some_ne_none _, Or.inr h⟩
    · exact fin (h4 b z)
end
/-! ### what an expression is worth -/
abbrev Env := List T
inductive W where
  | sh (d : D) | nw (t : T) | pl (i : Nat)
def W.tm : W → List T
  | .nw t => [t]
  | _ => []
def W.vl (v : V) : W → List (Option V)
  | .nw _ => [some v]
  | _ => []
def WV (K : PySem.W.Frag) (G : Hp) (s : L2.St) : W → V → Prop
  | .sh d, v => Rp K G d v
  | .nw _, _ => True
  | .pl i, v => s[i]? = some (some v)
abbrev ED := Env → Option (W × Env)
abbrev FD := Env → Option (D × Env)
abbrev FDs := Env → Option (List D × Env)
abbrev MD := Env → Option (T × Env)
abbrev MDs := Env → Option (List T × Env)
abbrev BD := Env → Option (Bool × Env)
def DE (K : PySem.W.Frag) (te : TE) (f : ED) : Prop := ∀ F G H r s tm us w r', SI K F G H (r ++ tm) (s ++ us) → r.length = s.length → f r = some (w, r') → ∀ Q : VK, (∀ v G' H', Ex G G' → SI K F G' H' (r' ++ (tm ++ w.tm)) (s ++ (us ++ w.vl v)) → r'.length = s.length → WV K G' s w v → Q v H') → te s H Q
def DF (K : PySem.W.Frag) (te : TE) (f : FD) : Prop := ∀ F G H r s tm us d r', SI K F G H (r ++ tm) (s ++ us) → r.length = s.length → f r = some (d, r') → ∀ Q : VK, (∀ v G' H', Ex G G' → SI K F G' H' (r' ++ tm) (s ++ us) → r'.length = s.length → Rp K G' d v → Q v H') → te s H Q
def DFs (K : PySem.W.Frag) (ta : TA) (f : FDs) : Prop := ∀ F G H r s tm us d r', SI K F G H (r ++ tm) (s ++ us) → r.length = s.length → f r = some (d, r') → ∀ Q : List V → Hp → Prop, (∀ v G' H', Ex G G' → SI K F G' H' (r' ++ tm) (s ++ us) → r'.length = s.length → RpL K G' d v → Q v H') → ta s H Q
def DM (K : PySem.W.Frag) (te : TE) (f : MD) : Prop := ∀ F G H r s tm us t r', SI K F G H (r ++ tm) (s ++ us) → r.length = s.length → f r = some (t, r') → ∀ Q : VK, (∀ v G' H', Ex G G' → SI K F G' H' (r' ++ (tm ++ [t])) (s ++ (us ++ [some v])) → r'.length = s.length → Q v H') → te s H Q
def DMs (K : PySem.W.Frag) (ta : TA) (f : MDs) : Prop := ∀ F G H r s tm us ts r', SI K F G H (r ++ tm) (s ++ us) → r.length = s.length → f r = some (ts, r') → ∀ Q : List V → Hp → Prop, (∀ (vs : List V) G' H', Ex G G' → SI K F G' H' (r' ++ (tm ++ ts)) (s ++ (us ++ vs.map some)) → r'.length = s.length → ts.length = vs.length → Q vs H') → ta s H Q
def DT (K : PySem.W.Frag) (tt : TT) (f : BD) : Prop := ∀ F G H r s tm us b r', SI K F G H (r ++ tm) (s ++ us) → r.length = s.length → f r = some (b, r') → ∀ Q : Bool → Hp → Prop, (∀ G' H', Ex G G' → SI K F G' H' (r' ++ tm) (s ++ us) → r'.length = s.length → Q b H') → tt s H Q
def share (r : Env) : W → Option (D × Env)
  | .sh d => some (d, r)
  | .nw t => t.data.bind fun d => some (d, r)
  | .pl i => (r[i]?).bind fun t => t.data.bind fun d => some (d, r.set i (.fz d))
section
variable {K : PySem.W.Frag} {F : Fx} {G G' H H' : Hp} {r r' : Env} {s : L2.St} {tm : List T} {us : List (Option V)}
theorem share_ok {w : W} {v : V} {d : D} (I : SI K F G H (r ++ (tm ++ w.tm)) (s ++ (us ++ w.vl v))) (hl : r.length = s.length) (hw : WV K G s w v) (e : share r w = some (d, r')) : ∃ G', Ex G G' ∧ SI K F G' H (r' ++ tm) (s ++ us) ∧ r'.length = s.length ∧ Rp K G' d v := by
  cases w with
  | sh d' =>
    cases e
    simp only [W.tm, W.vl, List.append_nil] at I
    exact ⟨G, Ex.refl G, I, hl, hw⟩
  | nw t =>
    obtain ⟨d', e1, e2⟩ := Option.bind_eq_some_iff.mp e
    cases e2
    simp only [W.tm, W.vl, ← List.append_assoc] at I
    have hl2 : (r ++ tm).length = (s ++ us).length := by
      have := I.len
      simp at this ⊢
      omega
    obtain ⟨G', v', z1, z2, z3, z4⟩ := I.iceAt (i := (r ++ tm).length) (by simp) e1
    rw [hl2] at z1
    simp at z1
    subst z1
    rw [List.set_append_right _ _ (Nat.le_refl _)] at z3
    exact ⟨G', z2, z3.drop hl2, hl, z4⟩
  | pl i =>
    obtain ⟨t, e0, e⟩ := Option.bind_eq_some_iff.mp e
    obtain ⟨d', e1, e2⟩ := Option.bind_eq_some_iff.mp e
    cases e2
    simp only [W.tm, W.vl, List.append_nil] at I
    have hi : i < r.length := (List.getElem?_eq_some_iff.mp e0).1
    obtain ⟨G', v', z1, z2, z3, z4⟩ := I.iceAt (i := i) (by rw [List.getElem?_append_left hi]; exact e0) e1
    rw [List.getElem?_append_left (by omega), hw] at z1
    cases z1
    rw [List.set_append_left _ _ hi] at z3
    exact ⟨G', z2, z3, by rw [List.length_set]; exact hl, z4⟩
def dSh (f : ED) : FD := fun r => (f r).bind fun p => share p.2 p.1
theorem df_of {te : TE} {f : ED} (h : DE K te f) : DF K te (dSh f) := fun F G H r s tm us d r' I hl e Q q => by
  obtain ⟨⟨w, r1⟩, e1, e⟩ := Option.bind_eq_some_iff.mp e
  refine h F G H r s tm us w r1 I hl e1 _ fun v G1 H1 x1 I1 l1 hw => ?_
  obtain ⟨G2, x2, I2, l2, q2⟩ := share_ok I1 l1 hw e
  exact q v G2 H1 (x1.trans x2) I2 l2 q2
def dLift (f : FD) : ED := fun r => (f r).bind fun p => some (.sh p.1, p.2)
theorem de_of {te : TE} {f : FD} (h : DF K te f) : DE K te (dLift f) := fun F G H r s tm us w r' I hl e Q q => by
  obtain ⟨⟨d, r1⟩, e1, e⟩ := Option.bind_eq_some_iff.mp e
  cases e
  exact h F G H r s tm us d r1 I hl e1 _ fun v G1 H1 x1 I1 l1 hd => q v G1 H1 x1 (by simpa only [W.tm, W.vl, List.append_nil] using I1) l1 hd
def dVar (i : Nat) : ED := fun r => match r[i]? with
  | some .un => none
  | none => none
  | some _ => some (.pl i, r)
theorem Rt.some_of {t : T} {y : Option V} {f : Fp} (h : Rt K G H t y f) (n : t ≠ .un) : ∃ v, y = some v := by
  cases h with
  | un => exact absurd rfl n
  | fz _ => exact ⟨_, rfl⟩
  | ls _ _ _ _ => exact ⟨_, rfl⟩
  | tp _ _ _ _ => exact ⟨_, rfl⟩
  | dk _ _ _ _ => exact ⟨_, rfl⟩
  | dt _ _ _ _ => exact ⟨_, rfl⟩
  | ob => exact ⟨_, rfl⟩
  | st => exact ⟨_, rfl⟩
  | dn => exact ⟨_, rfl⟩
theorem SI.val (I : SI K F G H (r ++ tm) (s ++ us)) (hl : r.length = s.length) {i : Nat} {t : T} (e : r[i]? = some t) (n : t ≠ .un) : ∃ v, s[i]? = some (some v) := by
  obtain ⟨f, hr, _⟩ := I.own
  have hi : i < r.length := (List.getElem?_eq_some_iff.mp e).1
  obtain ⟨y, g, h, b1, b2, _⟩ := hr.at (i := i) (by rw [List.getElem?_append_left hi]; exact e)
  obtain ⟨v, rfl⟩ := b2.some_of n
  rw [List.getElem?_append_left (by omega)] at b1
  exact ⟨v, b1⟩
theorem de_var {i : Nat} : DE K (tVar i) (dVar i) := fun F G H r s tm us w r' I hl e Q q => by
  unfold dVar at e
  split at e
  · cases e
  · cases e
  · rename_i t hr n
    cases e
    obtain ⟨v, hv⟩ := I.val hl n hr
    exact ⟨v, hv, q v G H (Ex.refl G) (by simpa only [W.tm, W.vl, List.append_nil] using I) hl hv⟩
def dC (d : D) : ED := fun r => some (.sh d, r)
theorem de_c {d : D} {v : V} (h : ∀ G, Rp K G d v) : DE K (tC v) (dC d) := fun F G H r s tm us w r' I hl e Q q => by
  cases e
  exact q v G H (Ex.refl G) (by simpa only [W.tm, W.vl, List.append_nil] using I) hl (h G)
/-- the variable's own thing goes out of its slot -/
def dMove (i : Nat) : ED := fun r => match r[i]? with
  | some .un => none
  | none => none
  | some t => some (.nw t, r.set i .un)
theorem de_move {i : Nat} : DE K (tVar i) (dMove i) := fun F G H r s tm us w r' I hl e Q q => by
  unfold dMove at e
  split at e
  · cases e
  · cases e
  · rename_i t hr n
    cases e
    have hi : i < r.length := (List.getElem?_eq_some_iff.mp n).1
    obtain ⟨v, hv⟩ := I.val hl n hr
    refine ⟨v, hv, q v G H (Ex.refl G) ?_ (by rw [List.length_set]; exact hl) trivial⟩
    obtain ⟨f, hr, hf⟩ := I.own
    obtain ⟨y, g, h, b1, b2, b3, b4, b5, b6⟩ := hr.at (i := i) (by rw [List.getElem?_append_left hi]; exact n)
    have k1 := b6 G H .un y (fun _ => False) (Ex.refl G) (fun _ _ => rfl) .un (fun b hb => hb.elim)
    rw [set_same b1, List.set_append_left _ _ hi] at k1
    rw [List.getElem?_append_left (by omega), hv] at b1
    cases b1
    have k2 : RtL K G H [t] [some v] g := .cons b2 (h := fun _ => False) .nil (fun b hb => hb) (fun b hb => hb.elim) (fun b _ z => z)
    have k3 := k2.app k1 (fun b hb z => hb.elim (fun q => q) fun q => b5 b z q)
    simp only [W.tm, W.vl, ← List.append_assoc]
    exact I.same hf k3 fun b hb => hb.elim (fun z => z.elim (fun q => q.elim) (b4 b)) (b3 b)
def fdNil : FDs := fun r => some ([], r)
def fdCons (f : FD) (g : FDs) : FDs := fun r => (f r).bind fun p => (g p.2).bind fun q => some (p.1 :: q.1, q.2)
theorem fd_nil : DFs K tNil fdNil := fun F G H r s tm us d r' I hl e Q q => by
  cases e
  exact q [] G H (Ex.refl G) I hl .nil
theorem fd_cons {te : TE} {ta : TA} {f : FD} {g : FDs} (h1 : DF K te f) (h2 : DFs K ta g) : DFs K (tCons te ta) (fdCons f g) := fun F G H r s tm us d r' I hl e Q q => by
  obtain ⟨⟨d1, r1⟩, e1, e⟩ := Option.bind_eq_some_iff.mp e
  obtain ⟨⟨ds, r2⟩, e2, e⟩ := Option.bind_eq_some_iff.mp e
  cases e
  exact h1 F G H r s tm us d1 r1 I hl e1 _ fun v G1 H1 x1 I1 l1 q1 => h2 F G1 H1 r1 s tm us ds r2 I1 l1 e2 _ fun vs G2 H2 x2 I2 l2 q2 => q _ G2 H2 (x1.trans x2) I2 l2 (.cons (q1.mono x2) q2)
def mv (r : Env) : W → Option (T × Env)
  | .nw t => some (t, r)
  | w => (share r w).bind fun p => some (.fz p.1, p.2)
theorem fz_in (I : SI K F G H (r ++ tm) (s ++ us)) {d : D} {v : V} (q : Rp K G d v) : SI K F G H (r ++ (tm ++ [.fz d])) (s ++ (us ++ [some v])) := by
  have := I.fzs (l := [d]) (vs := [v]) (.cons q .nil)
  simpa only [List.map_cons, List.map_nil, List.append_assoc] using this
theorem mv_ok {w : W} {v : V} {t : T} (I : SI K F G H (r ++ (tm ++ w.tm)) (s ++ (us ++ w.vl v))) (hl : r.length = s.length) (hw : WV K G s w v) (e : mv r w = some (t, r')) : ∃ G', Ex G G' ∧ SI K F G' H (r' ++ (tm ++ [t])) (s ++ (us ++ [some v])) ∧ r'.length = s.length := by
  cases w with
  | nw t' => cases e; exact ⟨G, Ex.refl G, I, hl⟩
  | sh d =>
    obtain ⟨⟨d', r1⟩, e1, e⟩ := Option.bind_eq_some_iff.mp (show (share r (.sh d)).bind (fun p => some (T.fz p.1, p.2)) = some (t, r') from e)
    cases e
    obtain ⟨G1, x1, I1, l1, q1⟩ := share_ok I hl hw e1
    exact ⟨G1, x1, fz_in I1 q1, l1⟩
  | pl i =>
    obtain ⟨⟨d', r1⟩, e1, e⟩ := Option.bind_eq_some_iff.mp (show (share r (.pl i)).bind (fun p => some (T.fz p.1, p.2)) = some (t, r') from e)
    cases e
    obtain ⟨G1, x1, I1, l1, q1⟩ := share_ok I hl hw e1
    exact ⟨G1, x1, fz_in I1 q1, l1⟩
def dMv (f : ED) : MD := fun r => (f r).bind fun p => mv p.2 p.1
theorem dm_of {te : TE} {f : ED} (h : DE K te f) : DM K te (dMv f) := fun F G H r s tm us t r' I hl e Q q => by
  obtain ⟨⟨w, r1⟩, e1, e⟩ := Option.bind_eq_some_iff.mp e
  refine h F G H r s tm us w r1 I hl e1 _ fun v G1 H1 x1 I1 l1 hw => ?_
  obtain ⟨G2, x2, I2, l2⟩ := mv_ok I1 l1 hw e
  exact q v G2 H1 (x1.trans x2) I2 l2
def mdNil : MDs := fun r => some ([], r)
def mdCons (f : MD) (g : MDs) : MDs := fun r => (f r).bind fun p => (g p.2).bind fun q => some (p.1 :: q.1, q.2)
theorem md_nil : DMs K tNil mdNil := fun F G H r s tm us d r' I hl e Q q => by
  cases e
  exact q [] G H (Ex.refl G) (by simpa only [List.map_nil, List.append_nil] using I) hl rfl
theorem md_cons {te : TE} {ta : TA} {f : MD} {g : MDs} (h1 : DM K te f) (h2 : DMs K ta g) : DMs K (tCons te ta) (mdCons f g) := fun F G H r s tm us d r' I hl e Q q => by
  obtain ⟨⟨t1, r1⟩, e1, e⟩ := Option.bind_eq_some_iff.mp e
  obtain ⟨⟨ts, r2⟩, e2, e⟩ := Option.bind_eq_some_iff.mp e
  cases e
  refine h1 F G H r s tm us t1 r1 I hl e1 _ fun v G1 H1 x1 I1 l1 => h2 F G1 H1 r1 s (tm ++ [t1]) (us ++ [some v]) ts r2 I1 l1 e2 _ fun vs G2 H2 x2 I2 l2 lv => q (v :: vs) G2 H2 (x1.trans x2) ?_ l2 (congrArg Nat.succ lv)
  simpa only [List.append_assoc, List.cons_append, List.nil_append, List.map_cons] using I2
/-! ### operations upon shared values -/
inductive Rs where
  | val (d : D) | newT (l : List D) | newL (l : List D)
def Rs.w : Rs → W
  | .val d => .sh d
  | .newT l => .sh (.tup l)
  | .newL l => .nw (.ls (l.map .fz))
/-- what is wanted of an operation's end, by what it is worth -/
def RsOk (K : PySem.W.Frag) (G H : Hp) (Q : VK) : Rs → Prop
  | .val d => ∀ w, Rp K G d w → Q w H
  | .newT l => (∀ w, Rp K G (.tup l) w → Q w H) ∧ ∀ p vs, H p = none → RpL K G l vs → Q (.ref p) (upd H p (.tup vs))
  | .newL l => ∀ p vs, H p = none → RpL K G l vs → Q (.ref p) (upd H p (.lst vs))
theorem rs_ok {z : Rs} {Q : VK} (I : SI K F G H (r ++ tm) (s ++ us)) (hl : r.length = s.length) (q : ∀ v G' H', Ex G G' → SI K F G' H' (r ++ (tm ++ z.w.tm)) (s ++ (us ++ z.w.vl v)) → r.length = s.length → WV K G' s z.w v → Q v H') : RsOk K G H Q z := by
  cases z with
  | val d => exact fun w h => q w G H (Ex.refl G) (by simpa only [Rs.w, W.tm, W.vl, List.append_nil] using I) hl h
  | newT l => exact ⟨fun w h => q w G H (Ex.refl G) (by simpa only [Rs.w, W.tm, W.vl, List.append_nil] using I) hl h, fun p vs hp h => q _ _ _ (Ex.new (I.Gnone hp)) (by simpa only [Rs.w, W.tm, W.vl, List.append_nil] using I.laid hp (o := .tup vs) (fun _ _ z => HO.noConfusion z)) hl (.tup (Or.inl (Or.inl upd_same)) (h.mono (Ex.new (I.Gnone hp))))⟩
  | newL l =>
    refine fun p vs hp h => q _ _ _ (Ex.refl G) ?_ hl trivial
    have := (I.fzs h).pack I.len hp
    simpa only [Rs.w, W.tm, W.vl, List.append_assoc] using this
def DC (K : PySem.W.Frag) (rl : List V → Hp → VK → Prop) (g : List D → Option Rs) : Prop := ∀ G H xs vs z, Sub G H → Plain G → RpL K G xs vs → g xs = some z → ∀ Q : VK, RsOk K G H Q z → rl vs H Q
/-- several values, then an operation -/
def dWith (f : FDs) (g : List D → Option Rs) : ED := fun r => (f r).bind fun p => (g p.1).bind fun z => some (z.w, p.2)
theorem de_with {ta : TA} {f : FDs} {rl : List V → Hp → VK → Prop} {g : List D → Option Rs} (hf : DFs K ta f) (hg : DC K rl g) : DE K (fun σ H Q => ta σ H fun vs H1 => rl vs H1 Q) (dWith f g) := fun F G H r s tm us w r' I hl e Q q => by
  obtain ⟨⟨ds, r1⟩, e1, e⟩ := Option.bind_eq_some_iff.mp e
  obtain ⟨z, e2, e⟩ := Option.bind_eq_some_iff.mp e
  cases e
  exact hf F G H r s tm us ds r1 I hl e1 _ fun vs G1 H1 x1 I1 l1 q1 => hg G1 H1 ds vs z I1.gh I1.pl q1 e2 Q (rs_ok I1 l1 fun v G' H' x2 I2 l2 hw => q v G' H' (x1.trans x2) I2 l2 hw)
def rl2 (rl : R2) : List V → Hp → VK → Prop := fun vs H Q => match vs with
  | [v, u] => rl v u H Q
  | _ => False
def rl1 (rl : V → Hp → VK → Prop) : List V → Hp → VK → Prop := fun vs H Q => match vs with
  | [v] => rl v H Q
  | _ => False
def dOp (g : List D → Option Rs) (fa fb : FD) : ED := dWith (fdCons fa (fdCons fb fdNil)) g
def dUn (g : List D → Option Rs) (fa : FD) : ED := dWith (fdCons fa fdNil) g
theorem de_op {fa fb : FD} {g : List D → Option Rs} {ta tb : TE} {rl : R2} (ha : DF K ta fa) (hb : DF K tb fb) (hg : DC K (rl2 rl) g) : DE K (tOp rl ta tb) (dOp g fa fb) := fun F G H r s tm us w r' I hl e Q q =>
  de_with (ta := tCons ta (tCons tb tNil)) (rl := rl2 rl) (fd_cons ha (fd_cons hb fd_nil)) hg F G H r s tm us w r' I hl e Q q
theorem de_un {fa : FD} {g : List D → Option Rs} {ta : TE} {rl : V → Hp → VK → Prop} (ha : DF K ta fa) (hg : DC K (rl1 rl) g) : DE K (tUn rl ta) (dUn g fa) := fun F G H r s tm us w r' I hl e Q q =>
  de_with (ta := tCons ta tNil) (rl := rl1 rl) (fd_cons ha fd_nil) hg F G H r s tm us w r' I hl e Q q
/-! ### displays -/
theorem big {n : Nat} (h : n ≤ 1000000) : n ≤ sizeLine := Nat.le_trans h (by decide)
theorem bigl {n : Nat} (h : n < 1000000) : n < sizeLine := Nat.lt_of_lt_of_le h (by decide)
def gTupD (l : List D) : Option Rs := if l.length ≤ 1000000 then some (.newT l) else none
def gLstD (l : List D) : Option Rs := if l.length ≤ 1000000 then some (.newL l) else none
theorem de_tup {ta : TA} {f : FDs} (h : DFs K ta f) : DE K (tTup ta) (dWith f gTupD) := by
  refine de_with (rl := fun xs H Q => xs.length ≤ sizeLine ∧ ∀ p, H p = none → Q (.ref p) (upd H p (.tup xs))) h fun G H xs vs z _ _ q e Q k => ?_
  unfold gTupD at e
  split at e
  · rename_i c
    cases e
    exact ⟨big (q.length ▸ c), fun p hp => k.2 p vs hp q⟩
  · cases e
theorem de_lst {ta : TA} {f : FDs} (h : DFs K ta f) : DE K (tLst ta) (dWith f gLstD) := by
  refine de_with (rl := fun xs H Q => xs.length ≤ sizeLine ∧ ∀ p, H p = none → Q (.ref p) (upd H p (.lst xs))) h fun G H xs vs z _ _ q e Q k => ?_
  unfold gLstD at e
  split at e
  · rename_i c
    cases e
    exact ⟨big (q.length ▸ c), fun p hp => k p vs hp q⟩
  · cases e
def dLstO (f : MDs) : ED := fun r => (f r).bind fun p => if p.1.length ≤ 1000000 then some (.nw (.ls p.1), p.2) else none
def dTupO (f : MDs) : ED := fun r => (f r).bind fun p => if p.1.length ≤ 1000000 then some (.nw (.tp p.1), p.2) else none
theorem assoc_len {ts : List T} {vs : List V} (I : SI K F G H (r ++ (tm ++ ts)) (s ++ (us ++ vs.map some))) (hl : r.length = s.length) (h : ts.length = vs.length) : (r ++ tm).length = (s ++ us).length := by
  have := I.len
  simp at this ⊢
  omega
theorem de_lstO {ta : TA} {f : MDs} (h : DMs K ta f) : DE K (tLst ta) (dLstO f) := fun F G H r s tm us w r' I hl e Q q => by
  obtain ⟨⟨ts, r1⟩, e1, e⟩ := Option.bind_eq_some_iff.mp e
  split at e
  · rename_i c
    cases e
    refine h F G H r s tm us ts r1 I hl e1 _ fun vs G1 H1 x1 I1 l1 hv => ?_
    refine ⟨big (hv ▸ c), fun p hp => q _ _ _ x1 ?_ l1 trivial⟩
    have I2 : SI K F G1 H1 ((r1 ++ tm) ++ ts) ((s ++ us) ++ vs.map some) := by simpa only [List.append_assoc] using I1
    simpa only [W.tm, W.vl, List.append_assoc] using I2.pack (assoc_len I1 l1 hv) hp
  · cases e
/-! ### tests -/
def truth : D → Option Bool
  | .non => some false
  | .bl b => some b
  | .int i => some (i != 0)
  | .str x => if x.length ≤ 1000000 then some ((x.length : Int) != 0) else none
  | .lst l => some (!l.isEmpty)
  | .tup l => some (!l.isEmpty)
  | _ => none
theorem truth_ok {d : D} {v : V} {b : Bool} (q : Rp K H d v) (e : truth d = some b) : TruV K v H b := by
  cases d with
  | non => cases q; cases e; rfl
  | bl c => cases q; cases e; rfl
  | int i => cases q; cases e; rfl
  | str z =>
    cases q
    unfold truth at e
    dsimp only at e
    split at e
    · rename_i c; cases e; exact ⟨big c, rfl⟩
    · cases e
  | lst l =>
    cases e
    cases q with | lst h1 h2 =>
      refine Or.inl ⟨_, Or.inl (Or.inl h1), ?_⟩
      cases h2 <;> rfl
  | tup l =>
    cases e
    cases q with | tup h1 h2 =>
      refine Or.inr (Or.inl ⟨_, h1, ?_⟩)
      cases h2 <;> rfl
  | dk ks l => cases e
  | dt ks l => cases e
  | exc c => cases e
  | scr c => cases e
  | fnc c => cases e
def dTru (f : FD) : BD := fun r => (f r).bind fun p => (truth p.1).bind fun b => some (b, p.2)
theorem dt_tru {te : TE} {f : FD} (h : DF K te f) : DT K (fun σ H Q => te σ H fun x H' => ∃ k, TruV K x H' k ∧ Q k H') (dTru f) := fun F G H r s tm us b r' I hl e Q q => by
  obtain ⟨⟨d, r1⟩, e1, e⟩ := Option.bind_eq_some_iff.mp e
  obtain ⟨c, e3, e⟩ := Option.bind_eq_some_iff.mp e
  cases e
  exact h F G H r s tm us d r1 I hl e1 _ fun v G1 H1 x1 I1 l1 hd => ⟨b, truth_ok (Rp.sub I1.pl I1.gh _ _ hd) e3, q G1 H1 x1 I1 l1⟩
def D.bool : D → Option Bool
  | .bl b => some b
  | _ => none
theorem bool_rp {d : D} {v : V} {b : Bool} (h : Rp K G d v) (e : d.bool = some b) : v = .bl b := by
  cases d with
  | bl c => cases e; cases h; rfl
  | _ => cases e
def dBl (f : FD) : BD := fun r => (f r).bind fun p => p.1.bool.bind fun b => some (b, p.2)
theorem dt_bl {te : TE} {f : FD} (h : DF K te f) : DT K (tB te) (dBl f) := fun F G H r s tm us b r' I hl e Q q => by
  obtain ⟨⟨d, r1⟩, e1, e⟩ := Option.bind_eq_some_iff.mp e
  obtain ⟨c, e3, e⟩ := Option.bind_eq_some_iff.mp e
  cases e
  exact h F G H r s tm us d r1 I hl e1 _ fun v G1 H1 x1 I1 l1 hd => ⟨b, bool_rp hd e3, q G1 H1 x1 I1 l1⟩
def dAnd (f g : BD) : BD := fun r => (f r).bind fun p => if p.1 = true then g p.2 else some (false, p.2)
def dOr (f g : BD) : BD := fun r => (f r).bind fun p => if p.1 = true then some (true, p.2) else g p.2
def dNot (f : BD) : BD := fun r => (f r).bind fun p => some (!p.1, p.2)
theorem dt_and {t u : TT} {f g : BD} (h1 : DT K t f) (h2 : DT K u g) : DT K (tAnd t u) (dAnd f g) := fun F G H r s tm us b r' I hl e Q q => by
  obtain ⟨⟨c, r1⟩, e1, e⟩ := Option.bind_eq_some_iff.mp e
  refine h1 F G H r s tm us c r1 I hl e1 _ fun G1 H1 x1 I1 l1 => ?_
  cases c with
  | true => exact h2 F G1 H1 r1 s tm us b r' I1 l1 e Q fun G2 H2 x2 I2 l2 => q G2 H2 (x1.trans x2) I2 l2
  | false => cases e; exact q G1 H1 x1 I1 l1
theorem dt_or {t u : TT} {f g : BD} (h1 : DT K t f) (h2 : DT K u g) : DT K (tOr t u) (dOr f g) := fun F G H r s tm us b r' I hl e Q q => by
  obtain ⟨⟨c, r1⟩, e1, e⟩ := Option.bind_eq_some_iff.mp e
  refine h1 F G H r s tm us c r1 I hl e1 _ fun G1 H1 x1 I1 l1 => ?_
  cases c with
  | false => exact h2 F G1 H1 r1 s tm us b r' I1 l1 e Q fun G2 H2 x2 I2 l2 => q G2 H2 (x1.trans x2) I2 l2
  | true => cases e; exact q G1 H1 x1 I1 l1
theorem dt_not {t : TT} {f : BD} (h1 : DT K t f) : DT K (tNot t) (dNot f) := fun F G H r s tm us b r' I hl e Q q => by
  obtain ⟨⟨c, r1⟩, e1, e⟩ := Option.bind_eq_some_iff.mp e
  cases e
  exact h1 F G H r s tm us c r1 I hl e1 _ fun G1 H1 x1 I1 l1 => q G1 H1 x1 I1 l1
def dBool (f : BD) : ED := fun r => (f r).bind fun p => some (.sh (.bl p.1), p.2)
theorem de_andV {ta tb : TE} {f g : FD} (h1 : DF K ta f) (h2 : DF K tb g) : DE K (tAndV ta tb) (dBool (dAnd (dBl f) (dBl g))) := fun F G H r s tm us w r' I hl e Q q => by
  obtain ⟨⟨c, r1⟩, e1, e⟩ := Option.bind_eq_some_iff.mp e
  cases e
  obtain ⟨⟨c1, r2⟩, e2, e3⟩ := Option.bind_eq_some_iff.mp e1
  obtain ⟨⟨d, r3⟩, e4, e5⟩ := Option.bind_eq_some_iff.mp e2
  obtain ⟨c2, e6, e7⟩ := Option.bind_eq_some_iff.mp e5
  cases e7
  refine h1 F G H r s tm us d r3 I hl e4 _ fun v G1 H1 x1 I1 l1 hd => ⟨c1, bool_rp hd e6, ?_⟩
  cases c1 with
  | true =>
    obtain ⟨⟨d', r4⟩, e8, e9⟩ := Option.bind_eq_some_iff.mp (show dBl g _ = some _ from e3)
    obtain ⟨c3, e10, e11⟩ := Option.bind_eq_some_iff.mp e9
    cases e11
    exact h2 F G1 H1 r3 s tm us d' r4 I1 l1 e8 Q fun v2 G2 H2 x2 I2 l2 hd2 => q v2 G2 H2 (x1.trans x2) (by simpa only [W.tm, W.vl, List.append_nil] using I2) l2 (by rw [bool_rp hd2 e10]; exact .bl c)
  | false =>
    cases e3
    exact q _ G1 H1 x1 (by simpa only [W.tm, W.vl, List.append_nil] using I1) l1 (.bl false)
theorem de_orV {ta tb : TE} {f g : FD} (h1 : DF K ta f) (h2 : DF K tb g) : DE K (tOrV ta tb) (dBool (dOr (dBl f) (dBl g))) := fun F G H r s tm us w r' I hl e Q q => by
  obtain ⟨⟨c, r1⟩, e1, e⟩ := Option.bind_eq_some_iff.mp e
  cases e
  obtain ⟨⟨c1, r2⟩, e2, e3⟩ := Option.bind_eq_some_iff.mp e1
  obtain ⟨⟨d, r3⟩, e4, e5⟩ := Option.bind_eq_some_iff.mp e2
  obtain ⟨c2, e6, e7⟩ := Option.bind_eq_some_iff.mp e5
  cases e7
  refine h1 F G H r s tm us d r3 I hl e4 _ fun v G1 H1 x1 I1 l1 hd => ⟨c1, bool_rp hd e6, ?_⟩
  cases c1 with
  | false =>
    obtain ⟨⟨d', r4⟩, e8, e9⟩ := Option.bind_eq_some_iff.mp (show dBl g _ = some _ from e3)
    obtain ⟨c3, e10, e11⟩ := Option.bind_eq_some_iff.mp e9
    cases e11
    exact h2 F G1 H1 r3 s tm us d' r4 I1 l1 e8 Q fun v2 G2 H2 x2 I2 l2 hd2 => q v2 G2 H2 (x1.trans x2) (by simpa only [W.tm, W.vl, List.append_nil] using I2) l2 (by rw [bool_rp hd2 e10]; exact .bl c)
  | true => cases e3; exact q _ G1 H1 x1 (by simpa only [W.tm, W.vl, List.append_nil] using I1) l1 (.bl true)
theorem de_notV {ta : TE} {f : FD} (h1 : DF K ta f) : DE K (tNotV ta) (dBool (dNot (dBl f))) := fun F G H r s tm us w r' I hl e Q q => by
  obtain ⟨⟨c, r1⟩, e1, e⟩ := Option.bind_eq_some_iff.mp e
  cases e
  obtain ⟨⟨c1, r2⟩, e2, e3⟩ := Option.bind_eq_some_iff.mp e1
  cases e3
  obtain ⟨⟨d, r3⟩, e4, e5⟩ := Option.bind_eq_some_iff.mp e2
  obtain ⟨c2, e6, e7⟩ := Option.bind_eq_some_iff.mp e5
  cases e7
  exact h1 F G H r s tm us d r3 I hl e4 _ fun v G1 H1 x1 I1 l1 hd => ⟨c1, bool_rp hd e6, q _ G1 H1 x1 (by simpa only [W.tm, W.vl, List.append_nil] using I1) l1 (.bl _)⟩
def dIfE (c : BD) (f g : ED) : ED := fun r => (c r).bind fun p => if p.1 = true then f p.2 else g p.2
theorem de_if {t : TT} {ta tb : TE} {c : BD} {f g : ED} (hc : DT K t c) (h1 : DE K ta f) (h2 : DE K tb g) : DE K (tIf t ta tb) (dIfE c f g) := fun F G H r s tm us w r' I hl e Q q => by
  obtain ⟨⟨k, r1⟩, e1, e⟩ := Option.bind_eq_some_iff.mp e
  refine hc F G H r s tm us k r1 I hl e1 _ fun G1 H1 x1 I1 l1 => ?_
  cases k with
  | true => exact h1 F G1 H1 r1 s tm us w r' I1 l1 e Q fun v G2 H2 x2 I2 l2 hw => q v G2 H2 (x1.trans x2) I2 l2 hw
  | false => exact h2 F G1 H1 r1 s tm us w r' I1 l1 e Q fun v G2 H2 x2 I2 l2 hw => q v G2 H2 (x1.trans x2) I2 l2 hw
/-! ### looked at only: nothing of the frame is shared for good -/
def T.frz (t : T) : T := match t.data with
  | some d => .fz d
  | none => .un
def D.scal : D → Bool
  | .non => true
  | .bl _ => true
  | .int _ => true
  | .str _ => true
  | _ => false
theorem scal_rp {d : D} {v : V} (h : Rp K G d v) (e : d.scal = true) : Rp K G' d v := by
  cases h with
  | non => exact .non
  | bl b => exact .bl b
  | int i => exact .int i
  | str z => exact .str z
  | _ => cases e
theorem RtL.iced {x : List (Option V)} (e : Ex G G') : ∀ {t : List T} {x : List (Option V)} {f : Fp}, RtL K G H t x f → (∀ b o, f b → H b = some o → (∀ q u, o ≠ .frz q u) → G' b = some o) → RtL K G' H (t.map T.frz) x (fun _ => False) := by
  intro t
  induction t with
  | nil => intro x f h k; cases h; exact .nil
  | cons t ts ih =>
    intro x f h k
    cases h with | cons a1 a2 a3 a4 a5 =>
      refine .cons (g := fun _ => False) (h := fun _ => False) ?_ (ih a2 fun b o hb => k b o (a4 b hb)) (fun b hb => hb) (fun b hb => hb) (fun b hb => hb.elim)
      unfold T.frz
      cases hd : t.data with
      | none => exact .un
      | some d =>
        obtain ⟨v, rfl, q⟩ := Rt.ice' e _ _ _ a1 (fun b o hb => k b o (a3 b hb)) d hd
        exact .fz q
theorem SI.look (I : SI K F G H r x) {x : List (Option V)} (I : SI K F G H r x) : ∃ F' G', Ex G G' ∧ SI K F' G' H (r.map T.frz) x ∧ ∀ G1 H1 r1 x1, SI K F' G1 H1 r1 x1 → SI K F G H1 r x := by
  obtain ⟨f, hr, hf⟩ := I.own
  have eg : Ex G (mix G f H) := fun b o hb => by
    rw [mix_out fun z => by rw [(hf b z).1] at hb; cases hb]
    exact hb
  refine ⟨⟨H, mix G f H, fun _ => False⟩, mix G f H, eg, ⟨⟨fun _ => False, hr.iced (x := x) eg (fun b o hb => mix_in hb), fun b hb => hb.elim⟩, fun a o e _ _ => e, I.tab, fun a t => ?_, fun a c => c.elim, Ex.refl _, fun b o hb => ?_, trivial, fun a o e => Or.inl e⟩, fun G1 H1 r1 x1 J => ?_⟩
  · cases q : mix G f H a with
    | none => rfl
    | some o =>
      rcases mix_cases q with ⟨z, _, _⟩ | z
      · exact absurd t (hf a z).2.2.2
      · rw [I.gtb a t] at z; cases z
  · rcases mix_cases hb with ⟨_, q, _⟩ | q
    · exact Or.inl q
    · exact I.gh b o q
  · have kp : ∀ a o, H a = some o → ¬ TbS.tb a → H1 a = some o := fun a o e t => J.keep a o e (fun z => z) t
    have ne : ∀ a, H a ≠ none → ¬ TbS.tb a → H1 a = H a := fun a h t => by
      cases e : H a with
      | none => exact absurd e h
      | some o => exact kp a o e t
    have nG : ∀ a o, G a = some o → ¬ TbS.tb a := fun a o e t => by rw [I.gtb a t] at e; cases e
    refine I.nextT f hf (Ex.refl G) (fun a o e => ?_) I.pl (fun a o e _ t => kp a o e t) J.tab (fun a h => ?_) (fun a o e => Or.inl e) (hr.frame (Ex.refl G) fun b hb => ne b (hf b hb).2.1 (hf b hb).2.2.2) (fun b hb => ⟨(hf b hb).1, by rw [ne b (hf b hb).2.1 (hf b hb).2.2.2]; exact (hf b hb).2.1, Or.inl hb⟩)
    · rcases I.gh a o e with q | ⟨z, o', q⟩
      · exact Or.inl (kp a _ q (nG a o e))
      · exact Or.inr ⟨z, o', kp a _ q (nG a o e)⟩
    · by_cases t : TbS.tb a
      · obtain ⟨_, q, _⟩ := J.tab a t
        rw [q]; exact Option.some_ne_none _
      · rw [ne a h t]; exact h
def dScal (f : FD) : FD := fun r => (f (r.map T.frz)).bind fun p => if p.1.scal = true then some (p.1, r) else none
theorem df_scal {te : TE} {f : FD} (h : DF K te f) : DF K te (dScal f) := fun F G H r s tm us d r' I hl e Q q => by
  obtain ⟨⟨d1, r1⟩, e1, e⟩ := Option.bind_eq_some_iff.mp e
  split at e
  · rename_i c
    cases e
    obtain ⟨F', G', xg, J, back⟩ := I.look I
    rw [List.map_append] at J
    exact h F' G' H (r.map T.frz) s (tm.map T.frz) us d1 r1 J (by rw [List.length_map]; exact hl) e1 _ fun v G1 H1 x1 I1 l1 hd => q v G H1 (Ex.refl G) (back _ _ _ _ I1) hl (scal_rp hd c)
  · cases e
def dScalT (f : BD) : BD := fun r => (f (r.map T.frz)).bind fun p => some (p.1, r)
theorem dt_scal {te : TT} {f : BD} (h : DT K te f) : DT K te (dScalT f) := fun F G H r s tm us d r' I hl e Q q => by
  obtain ⟨⟨d1, r1⟩, e1, e⟩ := Option.bind_eq_some_iff.mp e
  cases e
  obtain ⟨F', G', xg, J, back⟩ := I.look I
  rw [List.map_append] at J
  exact h F' G' H (r.map T.frz) s (tm.map T.frz) us d1 r1 J (by rw [List.length_map]; exact hl) e1 _ fun G1 H1 x1 I1 l1 => q G H1 (Ex.refl G) (back _ _ _ _ I1) hl
end
end Q
set_option Elab.async false
set_option linter.all false
set_option maxRecDepth 100000
set_option maxHeartbeats 2000000
namespace Q
open PySem PySem.Spec PyProof.Rows L2
variable [TbS]
/-! ### statements -/
inductive O where
  | nx (r : Env) | rt (w : W) (r : Env) | bk (r : Env) | ct (r : Env) | ex (c : Addr) (r : Env)
abbrev SD := Env → Option O
def Par (P : Nat → Option (Option V)) (s : L2.St) : Prop := ∀ i v, P i = some v → s[i]? = some v
def OOk (K : PySem.W.Frag) (F : Fx) (P : Nat → Option (Option V)) (X : WX) (G : Hp) (E : Ends) : O → Prop
  | .nx r => ∀ s' G' H', Ex G G' → SI K F G' H' r s' → Par P s' → E.nx s' H'
  | .rt w r => ∀ v s' G' H', Ex G G' → SI K F G' H' (r ++ w.tm) (s' ++ w.vl v) → r.length = s'.length → WV K G' s' w v → Par P s' → E.rt v H'
  | .bk r => ∀ s' G' H', Ex G G' → SI K F G' H' r s' → Par P s' → E.bk s' H'
  | .ct r => ∀ s' G' H', Ex G G' → SI K F G' H' r s' → Par P s' → E.ct s' H'
  | .ex c r => ∀ s' G' H', Ex G G' → SI K F G' H' r s' → Par P s' → X (.ref c) none s' H'
def DS (K : PySem.W.Frag) (A : Nat → Bool) (X : WX) (ts : TS) (g : SD) : Prop := ∀ F P G H r s o, (∀ i, A i = true → P i = none) → SI K F G H r s → Par P s → g r = some o → ∀ E : Ends, OOk K F P X G E o → ts E s H
abbrev XD := Env → Option (Sum W Addr × Env)
def XOk (K : PySem.W.Frag) (F : Fx) (X : WX) (G : Hp) (s : L2.St) (r' : Env) (Q : VK) : Sum W Addr → Prop
  | .inl w => ∀ v G' H', Ex G G' → SI K F G' H' (r' ++ w.tm) (s ++ w.vl v) → r'.length = s.length → WV K G' s w v → Q v H'
  | .inr c => ∀ G' H', Ex G G' → SI K F G' H' r' s → X (.ref c) none s H'
def DX (K : PySem.W.Frag) (X : WX) (te : TE) (f : XD) : Prop := ∀ F G H r s z r', SI K F G H r s → f r = some (z, r') → ∀ Q : VK, XOk K F X G s r' Q z → te s H Q
abbrev XB := Env → Option (Sum Bool Addr × Env)
def DTX (K : PySem.W.Frag) (X : WX) (tt : TT) (f : XB) : Prop := ∀ F G H r s z r', SI K F G H r s → f r = some (z, r') → ∀ Q : Bool → Hp → Prop,
  (match z with
    | .inl b => ∀ G' H', Ex G G' → SI K F G' H' r' s → Q b H'
    | .inr c => ∀ G' H', Ex G G' → SI K F G' H' r' s → X (.ref c) none s H') → tt s H Q
section
variable {K : PySem.W.Frag} {A : Nat → Bool} {X : WX}
theorem OOk.mono {F : Fx} {P : Nat → Option (Option V)} {G G' : Hp} {E : Ends} {o : O} (x : Ex G G') (h : OOk K F P X G E o) : OOk K F P X G' E o := by
  cases o with
  | nx r => exact fun s' G2 H2 x2 => h s' G2 H2 (x.trans x2)
  | rt w r => exact fun v s' G2 H2 x2 => h v s' G2 H2 (x.trans x2)
  | bk r => exact fun s' G2 H2 x2 => h s' G2 H2 (x.trans x2)
  | ct r => exact fun s' G2 H2 x2 => h s' G2 H2 (x.trans x2)
  | ex c r => exact fun s' G2 H2 x2 => h s' G2 H2 (x.trans x2)
def xLift (f : ED) : XD := fun r => (f r).bind fun p => some (.inl p.1, p.2)
theorem dx_of {te : TE} {f : ED} (h : DE K te f) : DX K X te (xLift f) := fun F G H r s z r' I e Q q => by
  obtain ⟨⟨w, r1⟩, e1, e⟩ := Option.bind_eq_some_iff.mp e
  cases e
  exact h F G H r s [] [] w r1 (by simpa only [List.append_nil] using I) I.len e1 Q fun v G' H' x1 I1 l1 hw => q v G' H' x1 (by simpa only [List.nil_append] using I1) l1 hw
def xbLift (f : BD) : XB := fun r => (f r).bind fun p => some (.inl p.1, p.2)
theorem dtx_of {te : TT} {f : BD} (h : DT K te f) : DTX K X te (xbLift f) := fun F G H r s z r' I e Q q => by
  obtain ⟨⟨w, r1⟩, e1, e⟩ := Option.bind_eq_some_iff.mp e
  cases e
  exact h F G H r s [] [] w r1 (by simpa only [List.append_nil] using I) I.len e1 Q fun G' H' x1 I1 l1 => q G' H' x1 (by simpa only [List.append_nil] using I1)
def xBl (f : XD) : XB := fun r => (f r).bind fun p => match p.1 with
  | .inl w => (share p.2 w).bind fun q => q.1.bool.bind fun b => some (.inl b, q.2)
  | .inr c => some (.inr c, p.2)
theorem dtx_bl {te : TE} {f : XD} (h : DX K X te f) : DTX K X (tB te) (xBl f) := fun F G H r s z r' I e Q q => by
  obtain ⟨⟨z1, r1⟩, e1, e⟩ := Option.bind_eq_some_iff.mp e
  cases z1 with
  | inl w =>
    obtain ⟨⟨d, r2⟩, e2, e⟩ := Option.bind_eq_some_iff.mp e
    obtain ⟨b, e3, e⟩ := Option.bind_eq_some_iff.mp e
    cases e
    refine h F G H r s (.inl w) r1 I e1 _ fun v G1 H1 x1 I1 l1 hw => ?_
    obtain ⟨G2, x2, I2, l2, q2⟩ := share_ok (tm := []) (us := []) (by simpa only [List.nil_append] using I1) l1 hw e2
    exact ⟨b, bool_rp q2 e3, q G2 H1 (x1.trans x2) (by simpa only [List.append_nil] using I2)⟩
  | inr c =>
    cases e
    exact h F G H r s (.inr c) _ I e1 _ q
def xNot (f : XB) : XB := fun r => (f r).bind fun p => match p.1 with
  | .inl b => some (.inl (!b), p.2)
  | .inr c => some (.inr c, p.2)
theorem dtx_not {te : TT} {f : XB} (h : DTX K X te f) : DTX K X (tNot te) (xNot f) := fun F G H r s z r' I e Q q => by
  obtain ⟨⟨z1, r1⟩, e1, e⟩ := Option.bind_eq_some_iff.mp e
  cases z1 with
  | inl b => cases e; exact h F G H r s (.inl b) _ I e1 _ q
  | inr c => cases e; exact h F G H r s (.inr c) _ I e1 _ q
def dNext : SD := fun r => some (.nx r)
def dSeq (g h : SD) : SD := fun r => (g r).bind fun o => match o with
  | .nx r1 => h r1
  | .rt w r1 => some (.rt w r1)
  | .bk r1 => some (.bk r1)
  | .ct r1 => some (.ct r1)
  | .ex c r1 => some (.ex c r1)
theorem ds_next : DS K A X tNext dNext := fun F P G H r s o a I p e E q => by
  cases e
  exact q s G H (Ex.refl G) I p
theorem ds_seq {t u : TS} {g h : SD} (h1 : DS K A X t g) (h2 : DS K A X u h) : DS K A X (tSeq t u) (dSeq g h) := fun F P G H r s o a I p e E q => by
  obtain ⟨o1, e1, e⟩ := Option.bind_eq_some_iff.mp e
  refine h1 F P G H r s o1 a I p e1 _ ?_
  cases o1 with
  | nx r1 => exact fun s' G' H' x I1 p1 => h2 F P G' H' r1 s' o a I1 p1 e E (q.mono x)
  | rt w r1 => cases e; exact q
  | bk r1 => cases e; exact q
  | ct r1 => cases e; exact q
  | ex c r1 => cases e; exact q
def dIf (c : XB) (g h : SD) : SD := fun r => (c r).bind fun p => match p.1 with
  | .inl true => g p.2
  | .inl false => h p.2
  | .inr c => some (.ex c p.2)
theorem ds_if {c : TT} {t u : TS} {b : XB} {g h : SD} (hc : DTX K X c b) (h1 : DS K A X t g) (h2 : DS K A X u h) : DS K A X (tIfS c t u) (dIf b g h) := fun F P G H r s o a I p e E q => by
  obtain ⟨⟨k, r1⟩, e1, e⟩ := Option.bind_eq_some_iff.mp e
  cases k with
  | inl k =>
    refine hc F G H r s (.inl k) r1 I e1 _ fun G1 H1 x1 I1 => ?_
    cases k with
    | true => exact h1 F P G1 H1 r1 s o a I1 p e E (q.mono x1)
    | false => exact h2 F P G1 H1 r1 s o a I1 p e E (q.mono x1)
  | inr c =>
    cases e
    exact hc F G H r s (.inr c) r1 I e1 _ fun G1 H1 x1 I1 => q s G1 H1 x1 I1 p
def dRet (f : XD) : SD := fun r => (f r).bind fun p => match p.1 with
  | .inl w => some (.rt w p.2)
  | .inr c => some (.ex c p.2)
theorem ds_ret {te : TE} {f : XD} (h : DX K X te f) : DS K A X (tRet te) (dRet f) := fun F P G H r s o a I p e E q => by
  obtain ⟨⟨z, r1⟩, e1, e⟩ := Option.bind_eq_some_iff.mp e
  cases z with
  | inl w => cases e; exact h F G H r s (.inl w) r1 I e1 _ fun v G1 H1 x1 I1 l1 hw => q v s G1 H1 x1 I1 l1 hw p
  | inr c => cases e; exact h F G H r s (.inr c) r1 I e1 _ fun G1 H1 x1 I1 => q s G1 H1 x1 I1 p
def dDrop (f : XD) : SD := fun r => (f r).bind fun p => match p.1 with
  | .inl _ => some (.nx p.2)
  | .inr c => some (.ex c p.2)
theorem ds_drop {te : TE} {f : XD} (h : DX K X te f) : DS K A X (tDrop te) (dDrop f) := fun F P G H r s o a I p e E q => by
  obtain ⟨⟨z, r1⟩, e1, e⟩ := Option.bind_eq_some_iff.mp e
  cases z with
  | inl w => cases e; exact h F G H r s (.inl w) r1 I e1 _ fun v G1 H1 x1 I1 l1 hw => q s G1 H1 x1 (I1.drop l1) p
  | inr c => cases e; exact h F G H r s (.inr c) r1 I e1 _ fun G1 H1 x1 I1 => q s G1 H1 x1 I1 p
def dRaise (c : Addr) : SD := fun r => some (.ex c r)
theorem ds_raise {c : Addr} : DS K A X (fun _ σ H => X (.ref c) none σ H) (dRaise c) := fun F P G H r s o a I p e E q => by
  cases e
  exact q s G H (Ex.refl G) I p
/-! ### targets -/
abbrev GD := Env → T → Option Env
abbrev GDs := Env → List T → Option Env
def DG (K : PySem.W.Frag) (A : Nat → Bool) (g : TG) (h : GD) : Prop := ∀ F P G H r s t v tm us r', (∀ i, A i = true → P i = none) → SI K F G H (r ++ t :: tm) (s ++ some v :: us) → r.length = s.length → Par P s → h r t = some r' → ∀ Q : L2.St → Hp → Prop, (∀ s' G' H', Ex G G' → SI K F G' H' (r' ++ tm) (s' ++ us) → r'.length = s'.length → s'.length = s.length → Par P s' → Q s' H') → g v s H Q
def DGs (K : PySem.W.Frag) (A : Nat → Bool) (g : TGs) (h : GDs) : Prop := ∀ F P G H r s ts vs tm us r', (∀ i, A i = true → P i = none) → SI K F G H (r ++ (ts ++ tm)) (s ++ ((vs : List V).map some ++ us)) → r.length = s.length → ts.length = vs.length → Par P s → h r ts = some r' → ∀ Q : L2.St → Hp → Prop, (∀ s' G' H', Ex G G' → SI K F G' H' (r' ++ tm) (s' ++ us) → r'.length = s'.length → s'.length = s.length → Par P s' → Q s' H') → g vs s H Q
theorem Par.set {P : Nat → Option (Option V)} {s : L2.St} (p : Par P s) {i : Nat} {x : Option V} (h : P i = none) : Par P (s.set i x) := fun j v e => by
  have : i ≠ j := fun z => by subst z; rw [h] at e; cases e
  rw [List.getElem?_set_ne this]
  exact p j v e
theorem SI.into {F : Fx} {G H : Hp} {r : Env} {s : L2.St} {t : T} {y : Option V} {tm : List T} {us : List (Option V)} (I : SI K F G H (r ++ t :: tm) (s ++ y :: us)) (hl : r.length = s.length) (i : Nat) : SI K F G H (r.set i t ++ tm) (s.set i y ++ us) := by
  obtain ⟨f, hr, hf⟩ := I.own
  obtain ⟨g, h, h1, h2, h3, h4, h5⟩ := hr.split hl
  cases h2 with | @cons _ _ _ _ _ gt ht a1 a2 a3 a4 a5 =>
    by_cases c : i < r.length
    · obtain ⟨y0, g0, h0, b1, b2, b3, b4, b5, b6⟩ := h1.at (i := i) (List.getElem?_eq_getElem c)
      have k1 := b6 G H t y gt (Ex.refl G) (fun _ _ => rfl) a1 (fun b hb z => h5 b (b4 b z) (a3 b hb))
      refine I.same hf (a2.app k1 fun b hb z => hb.elim (fun q => a5 b q z) fun q => h5 b (b4 b q) (a4 b z)) fun b hb => ?_
      rcases hb with (hb | hb) | hb
      · exact h4 b (a3 b hb)
      · exact h3 b (b4 b hb)
      · exact h4 b (a4 b hb)
    · rw [List.set_eq_of_length_le (by omega), List.set_eq_of_length_le (by omega)]
      exact I.same hf (a2.app h1 fun b hb z => h5 b hb (a4 b z)) fun b hb => hb.elim (h3 b) fun z => h4 b (a4 b z)
def gdName (i : Nat) : GD := fun r t => some (r.set i t)
theorem dg_name {i : Nat} (hA : A i = true) : DG K A (gName i) (gdName i) := fun F P G H r s t v tm us r' a I hl p e Q q => by
  cases e
  exact q _ G H (Ex.refl G) (I.into hl i) (by rw [List.length_set, List.length_set]; exact hl) (by rw [List.length_set]) (p.set (a i hA))
def gdNil : GDs := fun r ts => if ts.isEmpty then some r else none
def gdCons (g : GD) (h : GDs) : GDs := fun r ts => match ts with
  | [] => none
  | t :: ts => (g r t).bind fun r1 => h r1 ts
theorem dgs_nil : DGs K A gNil gdNil := fun F P G H r s ts vs tm us r' a I hl lv p e Q q => by
  cases ts with
  | nil =>
    cases e
    cases vs with
    | nil => exact ⟨rfl, q s G H (Ex.refl G) (by simpa using I) hl rfl p⟩
    | cons _ _ => cases lv
  | cons _ _ => cases e
theorem dgs_cons {g : TG} {u : TGs} {h : GD} {h' : GDs} (h1 : DG K A g h) (h2 : DGs K A u h') : DGs K A (gCons g u) (gdCons h h') := fun F P G H r s ts vs tm us r' a I hl lv p e Q q => by
  cases ts with
  | nil => cases e
  | cons t ts =>
    cases vs with
    | nil => cases lv
    | cons v vs =>
      obtain ⟨r1, e1, e⟩ := Option.bind_eq_some_iff.mp (show (h r t).bind _ = some r' from e)
      refine ⟨_, _, rfl, ?_⟩
      exact h1 F P G H r s t v (ts ++ tm) (vs.map some ++ us) r1 a (by simpa using I) hl p e1 _ fun s1 G1 H1 x1 I1 l1 m1 p1 => h2 F P G1 H1 r1 s1 ts vs tm us r' a I1 l1 (Nat.succ.inj lv) p1 e Q fun s2 G2 H2 x2 I2 l2 m2 p2 => q s2 G2 H2 (x1.trans x2) I2 l2 (m2.trans m1) p2
def T.tupParts : T → Option (List T)
  | .tp l => some l
  | .fz (.tup l) => some (l.map .fz)
  | _ => none
def T.lstParts : T → Option (List T)
  | .ls l => some l
  | .fz (.lst l) => some (l.map .fz)
  | _ => none
theorem SI.parts {F : Fx} {G H : Hp} {r : Env} {x : List (Option V)} {t : T} {v : V} {tm : List T} {us : List (Option V)} {ps : List T} (I : SI K F G H (r ++ t :: tm) (x ++ some v :: us)) (hl : r.length = x.length) (e : t.tupParts = some ps) : ∃ a vs, v = .ref a ∧ SqT K H a vs ∧ ps.length = vs.length ∧ SI K F G H (r ++ (ps ++ tm)) (x ++ (vs.map some ++ us)) := by
  obtain ⟨f, hr, hf⟩ := I.own
  obtain ⟨g, h, h1, h2, h3, h4, h5⟩ := hr.split hl
  cases h2 with | @cons _ _ _ _ _ gt ht a1 a2 a3 a4 a5 =>
    have fin : ∀ (vs : List V) (gp : Fp), RtL K G H ps (vs.map some) gp → (∀ b, gp b → gt b) → SI K F G H (r ++ (ps ++ tm)) (x ++ (vs.map some ++ us)) := fun vs gp q w =>
      I.same hf ((a2.app q fun b hb z => a5 b (w b hb) z).app h1 fun b hb z => h5 b hb (z.elim (fun q => a3 b (w b q)) (a4 b))) fun b hb => hb.elim (h3 b) fun z => z.elim (fun q => h4 b (a3 b (w b q))) fun q => h4 b (a4 b q)
    cases t with
    | tp l =>
      cases e
      cases a1 with | tp c1 c2 c3 c4 => exact ⟨_, _, rfl, Or.inl (Or.inl c2), by have := c3.length; simpa using this, fin _ _ c3 fun b hb => (c4 b hb).1⟩
    | fz d => cases d with
      | tup l =>
        cases e
        cases a1 with | fz q => cases q with | tup c1 c2 => exact ⟨_, _, rfl, sub_t I.pl I.gh c1, by rw [List.length_map]; exact c2.length, fin _ _ (RtL.fzs c2) fun b hb => hb.elim⟩
      | _ => cases e
    | _ => cases e
def gdTup (n : Nat) (h : GDs) : GD := fun r t => t.tupParts.bind fun ps => if ps.length = n then h r ps else none
def gdLst (n : Nat) (h : GDs) : GD := fun r t => t.lstParts.bind fun ps => if ps.length = n then h r ps else none
theorem dg_tup {n : Nat} {t : TGs} {h : GDs} (ht : DGs K A t h) : DG K A (gTup K n t) (gdTup n h) := fun F P G H r s t v tm us r' a I hl p e Q q => by
  obtain ⟨ps, e1, e⟩ := Option.bind_eq_some_iff.mp e
  split at e
  · rename_i c
    obtain ⟨b, vs, rfl, z1, z2, J⟩ := I.parts hl e1
    exact ⟨b, vs, rfl, z1, by omega, ht F P G H r s ps vs tm us r' a J hl z2 p e Q q⟩
  · cases e
/-- target = value -/
def dAsg (f : XD) (g : GD) : SD := fun r => (f r).bind fun p => match p.1 with
  | .inl w => (mv p.2 w).bind fun q => (g q.2 q.1).bind fun r2 => some (.nx r2)
  | .inr c => some (.ex c p.2)
theorem ds_asg {te : TE} {f : XD} {t : TG} {g : GD} (h : DX K X te f) (hg : DG K A t g) : DS K A X (tAsg te t) (dAsg f g) := fun F P G H r s o a I p e E q => by
  obtain ⟨⟨z, r1⟩, e1, e⟩ := Option.bind_eq_some_iff.mp e
  cases z with
  | inl w =>
    obtain ⟨⟨t1, r2⟩, e2, e⟩ := Option.bind_eq_some_iff.mp e
    obtain ⟨r3, e3, e⟩ := Option.bind_eq_some_iff.mp e
    cases e
    refine h F G H r s (.inl w) r1 I e1 _ fun v G1 H1 x1 I1 l1 hw => ?_
    obtain ⟨G2, x2, I2, l2⟩ := mv_ok (tm := []) (us := []) (by simpa only [List.nil_append] using I1) l1 hw e2
    exact hg F P G2 H1 r2 s t1 v [] [] r3 a I2 l2 p e3 _ fun s' G3 H3 x3 I3 l3 m3 p3 => q s' G3 H3 ((x1.trans x2).trans x3) (by simpa only [List.append_nil] using I3) p3
  | inr c => cases e; exact h F G H r s (.inr c) r1 I e1 _ fun G1 H1 x1 I1 => q s G1 H1 x1 I1 p
/-! ### loops -/
def WalkD (K : PySem.W.Frag) (J : It) (l : List D) (G0 : Hp) : Prop := ∀ F G H r x, Ex G0 G → SI K F G H r x → ∀ i : Nat,
  (∀ d, l[i]? = some d → J.go i H ∧ ∀ y H', J.yld i H y H' → ∃ G', Ex G G' ∧ SI K F G' H' r x ∧ Rp K G' d y) ∧ (l.length ≤ i → J.stop i H)
abbrev ID := Env → Option (List D × Env)
def DI (K : PySem.W.Frag) (wi : TI) (f : ID) : Prop := ∀ F G H r s tm us l r', SI K F G H (r ++ tm) (s ++ us) → r.length = s.length → f r = some (l, r') → ∀ R : It → Hp → Prop, (∀ J G' H', Ex G G' → SI K F G' H' (r' ++ tm) (s ++ us) → r'.length = s.length → WalkD K J l G' → R J H') → wi s H R
def loopD (h : GD) (body : SD) : List D → Env → Option O
  | [], r => some (.nx r)
  | d :: l, r => (h r (.fz d)).bind fun r1 => (body r1).bind fun o => match o with
    | .nx r2 => loopD h body l r2
    | .ct r2 => loopD h body l r2
    | .bk r2 => some (.nx r2)
    | .rt w r2 => some (.rt w r2)
    | .ex c r2 => some (.ex c r2)
def dFor (f : ID) (h : GD) (body : SD) : SD := fun r => (f r).bind fun p => loopD h body p.1 p.2
theorem ds_for {wi : TI} {g : TG} {tb : TS} {f : ID} {h : GD} {body : SD} (hi : DI K wi f) (hg : DG K A g h) (hb : DS K A X tb body) : DS K A X (tFor wi g tb) (dFor f h body) := fun F P G H r s o a I p e E q => by
  obtain ⟨⟨l, r1⟩, e1, e⟩ := Option.bind_eq_some_iff.mp e
  refine hi F G H r s [] [] l r1 (by simpa only [List.append_nil] using I) I.len e1 _ fun J G1 H1 x1 I1 l1 hJ => ?_
  refine ⟨fun i m s' H' => i ≤ l.length ∧ m = l.length - i ∧ ∃ G' r', Ex G1 G' ∧ SI K F G' H' r' s' ∧ Par P s' ∧ loopD h body (l.drop i) r' = some o, ⟨l.length, Nat.zero_le _, rfl, G1, r1, Ex.refl G1, by simpa only [List.append_nil] using I1, p, e⟩, ?_⟩
  rintro i m s' H' ⟨hi, rfl, G', r', x', I', p', e'⟩
  by_cases c : i < l.length
  · have hd : l[i]? = some l[i] := List.getElem?_eq_getElem c
    obtain ⟨go, yl⟩ := (hJ F G' H' r' s' x' I' i).1 _ hd
    rw [List.drop_eq_getElem_cons c] at e'
    obtain ⟨r2, e2, e3⟩ := Option.bind_eq_some_iff.mp (show (h r' (.fz l[i])).bind _ = some o from e')
    obtain ⟨o2, e4, e5⟩ := Option.bind_eq_some_iff.mp e3
    refine Or.inr ⟨go, fun s3 H3 => ∃ G3 r3, Ex G1 G3 ∧ SI K F G3 H3 r3 s3 ∧ Par P s3 ∧ loopD h body (l.drop (i + 1)) r3 = some o, fun s3 H3 ⟨G3, r3, x3, I3, p3, e6⟩ => ⟨l.length - (i + 1), by omega, c, rfl, G3, r3, x3, I3, p3, e6⟩, fun x H2 y => ?_⟩
    obtain ⟨G2, x2, I2, q2⟩ := yl x H2 y
    refine hg F P G2 H2 r' s' (.fz l[i]) x [] [] r2 a (by simpa using I2.fzs (l := [l[i]]) (vs := [x]) (.cons q2 .nil)) I2.len p' e2 _ fun s3 G3 H3 x3 I3 l3 m3 p3 => ?_
    have xx := (x'.trans x2).trans x3
    refine hb F P G3 H3 r2 s3 o2 a (by simpa only [List.append_nil] using I3) p3 e4 _ ?_
    cases o2 with
    | nx r4 => exact fun s4 G4 H4 x4 I4 p4 => ⟨G4, r4, xx.trans x4, I4, p4, e5⟩
    | ct r4 => exact fun s4 G4 H4 x4 I4 p4 => ⟨G4, r4, xx.trans x4, I4, p4, e5⟩
    | bk r4 => cases e5; exact fun s4 G4 H4 x4 I4 p4 => q s4 G4 H4 ((x1.trans xx).trans x4) I4 p4
    | rt w r4 => cases e5; exact fun v s4 G4 H4 x4 I4 l4 w4 p4 => q v s4 G4 H4 ((x1.trans xx).trans x4) I4 l4 w4 p4
    | ex w r4 => cases e5; exact fun s4 G4 H4 x4 I4 p4 => q s4 G4 H4 ((x1.trans xx).trans x4) I4 p4
  · have ei : i = l.length := by omega
    subst ei
    rw [List.drop_length] at e'
    cases e'
    exact Or.inl ⟨(hJ F G' H' r' s' x' I' l.length).2 (Nat.le_refl _), q s' G' H' (x1.trans x') I' p'⟩
def whileD (t : XB) (body : SD) : Nat → Env → Option O
  | 0, _ => none
  | n + 1, r => (t r).bind fun p => match p.1 with
    | .inl true => (body p.2).bind fun o => match o with
      | .nx r2 => whileD t body n r2
      | .ct r2 => whileD t body n r2
      | .bk r2 => some (.nx r2)
      | .rt w r2 => some (.rt w r2)
      | .ex c r2 => some (.ex c r2)
    | .inl false => some (.nx p.2)
    | .inr c => some (.ex c p.2)
def dWhile (n : Env → Nat) (t : XB) (body : SD) : SD := fun r => whileD t body (n r) r
theorem ds_while {n : Env → Nat} {c : TT} {tb : TS} {t : XB} {body : SD} (hc : DTX K X c t) (hb : DS K A X tb body) : DS K A X (tWhile c tb) (dWhile n t body) := fun F P G H r s o a I p e E q => by
  refine ⟨fun m s' H' => ∃ G' r', Ex G G' ∧ SI K F G' H' r' s' ∧ Par P s' ∧ whileD t body m r' = some o, ⟨n r, G, r, Ex.refl G, I, p, e⟩, ?_⟩
  rintro m s' H' ⟨G', r', x', I', p', e'⟩
  cases m with
  | zero => cases e'
  | succ m =>
    obtain ⟨⟨b, r1⟩, e1, e2⟩ := Option.bind_eq_some_iff.mp (show (t r').bind _ = some o from e')
    cases b with
    | inr c =>
      cases e2
      exact hc F G' H' r' s' (.inr c) r1 I' e1 _ fun G1 H1 x1 I1 => q s' G1 H1 (x'.trans x1) I1 p'
    | inl b =>
      refine hc F G' H' r' s' (.inl b) r1 I' e1 _ fun G1 H1 x1 I1 => ?_
      cases b with
      | false => cases e2; exact q s' G1 H1 (x'.trans x1) I1 p'
      | true =>
        obtain ⟨o2, e3, e4⟩ := Option.bind_eq_some_iff.mp (show (body r1).bind _ = some o from e2)
        refine ⟨fun s3 H3 => ∃ G3 r3, Ex G G3 ∧ SI K F G3 H3 r3 s3 ∧ Par P s3 ∧ whileD t body m r3 = some o, fun s3 H3 h3 => ⟨m, Nat.lt_succ_self m, h3⟩, ?_⟩
        have xx := x'.trans x1
        refine hb F P G1 H1 r1 s' o2 a I1 p' e3 _ ?_
        cases o2 with
        | nx r4 => exact fun s4 G4 H4 x4 I4 p4 => ⟨G4, r4, xx.trans x4, I4, p4, e4⟩
        | ct r4 => exact fun s4 G4 H4 x4 I4 p4 => ⟨G4, r4, xx.trans x4, I4, p4, e4⟩
        | bk r4 => cases e4; exact fun s4 G4 H4 x4 I4 p4 => q s4 G4 H4 (xx.trans x4) I4 p4
        | rt w r4 => cases e4; exact fun v s4 G4 H4 x4 I4 l4 w4 p4 => q v s4 G4 H4 (xx.trans x4) I4 l4 w4 p4
        | ex w r4 => cases e4; exact fun s4 G4 H4 x4 I4 p4 => q s4 G4 H4 (xx.trans x4) I4 p4
def dItemsL (f : FD) : ID := fun r => (f r).bind fun x => match x.1 with
  | .lst l => some (l, x.2)
  | _ => none
def dItemsT (f : FD) : ID := fun r => (f r).bind fun x => match x.1 with
  | .tup l => some (l, x.2)
  | _ => none
theorem walk_l {a : Addr} {l : List D} {xs : List V} {G0 : Hp} (pg : Plain G0) (h : SqL K G0 a xs) (q : RpL K G0 l xs) : WalkD K (Itl K a) l G0 := fun F G H r x xg I i => by
  have hH : SqL K H a xs := sub_l I.pl I.gh (ex_l xg h)
  refine ⟨fun d hd => ?_, fun hl => ⟨xs, hH, q.length ▸ hl⟩⟩
  obtain ⟨v, hv, hq⟩ := q.get hd
  refine ⟨⟨xs, v, hH, hv⟩, fun y H' ⟨e1, e2⟩ => ?_⟩
  subst e1
  have := e2 xs hH
  rw [hv] at this
  cases this
  exact ⟨G, Ex.refl G, I, hq.mono xg⟩
theorem walk_t {a : Addr} {l : List D} {xs : List V} {G0 : Hp} (pg : Plain G0) (h : SqT K G0 a xs) (q : RpL K G0 l xs) : WalkD K (Itt K a) l G0 := fun F G H r x xg I i => by
  have hH : SqT K H a xs := sub_t I.pl I.gh (ex_t xg h)
  refine ⟨fun d hd => ?_, fun hl => ⟨xs, hH, q.length ▸ hl⟩⟩
  obtain ⟨v, hv, hq⟩ := q.get hd
  refine ⟨⟨xs, v, hH, hv⟩, fun y H' ⟨e1, e2⟩ => ?_⟩
  subst e1
  have := e2 xs hH
  rw [hv] at this
  cases this
  exact ⟨G, Ex.refl G, I, hq.mono xg⟩
theorem di_list {te : TE} {f : FD} (h : DF K te f) : DI K (iList K te) (dItemsL f) := fun F G H r s tm us l r' I hl e R q => by
  obtain ⟨⟨d, r1⟩, e1, e⟩ := Option.bind_eq_some_iff.mp e
  cases d with
  | lst l' =>
    cases e
    refine h F G H r s tm us _ r1 I hl e1 _ fun v G1 H1 x1 I1 l1 q2 => ?_
    cases q2 with | lst h1 h2 => exact ⟨_, rfl, ⟨_, Or.inl (Or.inl (sub_ex I1.gh h1))⟩, q _ G1 H1 x1 I1 l1 (walk_l I1.pl (Or.inl (Or.inl h1)) h2)⟩
  | _ => cases e
theorem di_tup {te : TE} {f : FD} (h : DF K te f) : DI K (iTup K te) (dItemsT f) := fun F G H r s tm us l r' I hl e R q => by
  obtain ⟨⟨d, r1⟩, e1, e⟩ := Option.bind_eq_some_iff.mp e
  cases d with
  | tup l' =>
    cases e
    refine h F G H r s tm us _ r1 I hl e1 _ fun v G1 H1 x1 I1 l1 q2 => ?_
    cases q2 with | tup h1 h2 => exact ⟨_, rfl, ⟨_, sub_t I1.pl I1.gh h1⟩, q _ G1 H1 x1 I1 l1 (walk_t I1.pl h1 h2)⟩
  | _ => cases e
def upto (lo : Int) (n : Nat) : List D := (List.range n).map fun (i : Nat) => .int (lo + (i : Int))
theorem walk_r {lo : Int} {n : Nat} {G0 : Hp} : WalkD K (Itr lo n) (upto lo n) G0 := fun F G H r x xg I i => by
  unfold upto
  refine ⟨fun d hd => ?_, fun hl => by rw [List.length_map, List.length_range] at hl; exact hl⟩
  rw [List.getElem?_map] at hd
  by_cases c : i < n
  · rw [List.getElem?_range c] at hd
    cases hd
    refine ⟨c, fun y H' ⟨e1, e2⟩ => ?_⟩
    subst e1 e2
    exact ⟨G, Ex.refl G, I, .int _⟩
  · rw [List.getElem?_eq_none (by rw [List.length_range]; omega)] at hd
    cases hd
def dRange1 (f : FDs) : ID := fun r => (f r).bind fun p => match p.1 with
  | [.int j] => if -(2 ^ 62) ≤ j ∧ j < 2 ^ 62 then some (upto 0 j.toNat, p.2) else none
  | _ => none
def dRange2 (f : FDs) : ID := fun r => (f r).bind fun p => match p.1 with
  | [.int i, .int j] => if -(2 ^ 62) ≤ i ∧ i < 2 ^ 62 ∧ -(2 ^ 62) ≤ j ∧ j < 2 ^ 62 then some (upto i (j - i).toNat, p.2) else none
  | _ => none
theorem di_range1 {ta : TA} {f : FDs} (h : DFs K ta f) : DI K (iRng1 ta) (dRange1 f) := fun F G H r s tm us l r' I hl e R q => by
  obtain ⟨⟨ds, r1⟩, e1, e⟩ := Option.bind_eq_some_iff.mp e
  dsimp only at e
  split at e
  · rename_i j
    split at e
    · rename_i c
      cases e
      refine h F G H r s tm us _ _ I hl e1 _ fun vs G1 H1 x1 I1 l1 hv => ?_
      cases hv with | cons h1 h2 =>
        cases h2
        cases h1
        exact ⟨j, rfl, c.1, c.2, q _ G1 H1 x1 I1 l1 walk_r⟩
    · cases e
  · cases e
end
end Q
set_option Elab.async false
set_option linter.all false
set_option maxRecDepth 100000
set_option maxHeartbeats 2000000
namespace Q
open PySem PySem.Spec PyProof.Rows L2
variable [TbS]
/-! ### defs -/
inductive Res where
  | ret (t : T) | exc (c : Addr)
abbrev FnT := List T → Option (Res × List T)
structure Entry (K : PySem.W.Frag) (G H : Hp) (ps : List T) (vs : List V) (f : Fp) : Prop where
  rt : RtL K G H ps (vs.map some) f
  fo : ∀ b, f b → G b = none ∧ H b ≠ none ∧ ¬ TbS.tb b
  gh : Sub G H
  pl : Plain G
  tab : ∀ a, TbS.tb a → GxR.TabG H a
  gtb : ∀ a, TbS.tb a → G a = none
structure End (K : PySem.W.Frag) (G H : Hp) (f : Fp) (ts : List T) (xs : List (Option V)) (G' H' : Hp) : Prop where
  gg : Ex G G'
  gh : Sub G' H'
  pl : Plain G'
  keep : ∀ a o, H a = some o → ¬ f a → ¬ TbS.tb a → H' a = some o
  tab : ∀ a, TbS.tb a → GxR.TabG H' a
  lv : ∀ a, H a ≠ none → H' a ≠ none
  gn : ∀ a o, G' a = some o → G a = some o ∨ f a ∨ H a = none
  rt : ∃ f' : Fp, RtL K G' H' ts xs f' ∧ ∀ b, f' b → G' b = none ∧ H' b ≠ none ∧ (f b ∨ H b = none)
def ResOk (K : PySem.W.Frag) (G H : Hp) (f : Fp) (vs : List V) (ps' : List T) (Q : VK) (E : XK) : Res → Prop
  | .ret t => ∀ v G' H', End K G H f (ps' ++ [t]) (vs.map some ++ [some v]) G' H' → Q v H'
  | .exc c => ∀ G' H', End K G H f ps' (vs.map some) G' H' → E (.ref c) none H'
def spD (K : PySem.W.Frag) (n : Nat) (fn : FnT) : Sp := fun vs H Q E => vs.length = n ∧ ∃ G f ps z ps', fn ps = some (z, ps') ∧ Entry K G H ps vs f ∧ ResOk K G H f vs ps' Q E z
def keepP : T → T
  | .fz d => .fz d
  | _ => .un
def outP : List Bool → List T → Env → List T
  | b :: fx, p :: ps, t :: r => (if b = true then t else keepP p) :: outP fx ps r
  | _, _, _ => []
def retW (n : Nat) (r : Env) : W → Option (T × Env)
  | .sh d => some (.fz d, r)
  | .nw t => some (t, r)
  | .pl i => if i < n then (share r (.pl i)).bind fun p => some (.fz p.1, p.2) else match r[i]? with
    | some .un => none
    | none => none
    | some t => some (t, r.set i .un)
def fnD (n N : Nat) (fx : List Bool) (body : SD) : FnT := fun ps => if ps.length = n then (body (ps ++ List.replicate (N - n) .un)).bind fun o => match o with
    | .nx r => if n ≤ r.length then some (.ret (.fz .non), outP fx ps r) else none
    | .rt w r => (retW n r w).bind fun p => if n ≤ p.2.length then some (.ret p.1, outP fx ps p.2) else none
    | .ex c r => if n ≤ r.length then some (.exc c, outP fx ps r) else none
    | _ => none
  else none
section
variable {K : PySem.W.Frag}
theorem SI.moved {F : Fx} {G H : Hp} {r : Env} {s : L2.St} {tm : List T} {us : List (Option V)} {i : Nat} {t : T} {v : V} (I : SI K F G H (r ++ tm) (s ++ us)) (hl : r.length = s.length) (n : r[i]? = some t) (hv : s[i]? = some (some v)) : SI K F G H (r.set i .un ++ (tm ++ [t])) (s ++ (us ++ [some v])) := by
  have hi : i < r.length := (List.getElem?_eq_some_iff.mp n).1
  obtain ⟨f, hr, hf⟩ := I.own
  obtain ⟨y, g, h, b1, b2, b3, b4, b5, b6⟩ := hr.at (i := i) (by rw [List.getElem?_append_left hi]; exact n)
  have k1 := b6 G H .un y (fun _ => False) (Ex.refl G) (fun _ _ => rfl) .un (fun b hb => hb.elim)
  rw [set_same b1, List.set_append_left _ _ hi] at k1
  rw [List.getElem?_append_left (by omega), hv] at b1
  cases b1
  have k2 : RtL K G H [t] [some v] g := .cons b2 (h := fun _ => False) .nil (fun b hb => hb) (fun b hb => hb.elim) (fun b _ z => z)
  have k3 := k2.app k1 (fun b hb z => hb.elim (fun q => q) fun q => b5 b z q)
  simp only [← List.append_assoc]
  exact I.same hf k3 fun b hb => hb.elim (fun z => z.elim (fun q => q.elim) (b4 b)) (b3 b)
theorem keepP_rt {G G' H H' : Hp} {t : T} {x : Option V} {f g : Fp} (h : Rt K G H t x f) (e : Ex G G') : Rt K G' H' (keepP t) x g := by
  cases h with
  | fz q => exact .fz (q.mono e)
  | _ => exact .un
theorem outP_ok {G G' H H' : Hp} (e : Ex G G') : ∀ {fx : List Bool} {ps : List T} {vs : List V} {f f' : Fp} {r : Env} {s : L2.St}, fx.length = ps.length → ps.length ≤ r.length → RtL K G H ps (vs.map some) f → RtL K G' H' r s f' → (∀ (j : Nat) (v : V), fx[j]? = some true → vs[j]? = some v → s[j]? = some (some v)) → RtL K G' H' (outP fx ps r) (vs.map some) f' := by
  intro fx
  induction fx with
  | nil =>
    intro ps vs f f' r s l1 l2 h1 h2 hp
    cases ps with
    | nil => cases vs with
      | nil => exact .nil
      | cons _ _ => cases h1
    | cons _ _ => cases l1
  | cons b fx ih =>
    intro ps vs f f' r s l1 l2 h1 h2 hp
    cases ps with
    | nil => cases l1
    | cons p ps =>
      cases r with
      | nil => cases l2
      | cons t r =>
        cases vs with
        | nil => cases h1
        | cons v vs =>
          cases h1 with | cons a1 a2 a3 a4 a5 =>
            cases h2 with | @cons _ x _ xs _ g h b1 b2 b3 b4 b5 =>
              have rest := ih (Nat.succ.inj l1) (Nat.le_of_succ_le_succ l2) a2 b2 fun j v e1 e2 => by simpa using hp (j + 1) v (by simpa using e1) (by simpa using e2)
              refine .cons (g := g) (h := h) ?_ rest b3 b4 b5
              cases b with
              | true =>
                have := hp 0 v rfl rfl
                simp at this
                subst this
                exact b1
              | false => exact keepP_rt a1 e
theorem start_get {N : List Str} {vs : List V} {i : Nat} {v : V} (e : vs[i]? = some v) : (L2.start N vs)[i]? = some (some v) := by
  unfold L2.start
  have hi : i < vs.length := (List.getElem?_eq_some_iff.mp e).1
  rw [List.getElem?_append_left (by rw [List.length_map]; exact hi), List.getElem?_map, e]
  rfl
theorem RtL.uns {G H : Hp} : ∀ {n : Nat} {x : List (Option V)}, x.length = n → RtL K G H (List.replicate n .un) x (fun _ => False) := by
  intro n
  induction n with
  | zero => intro x h; cases x with
    | nil => exact .nil
    | cons _ _ => cases h
  | succ n ih => intro x h; cases x with
    | nil => cases h
    | cons x xs => exact .cons (g := fun _ => False) .un (ih (Nat.succ.inj h)) (fun b hb => hb) (fun b hb => hb) (fun b hb => hb.elim)
theorem entry_si {G H : Hp} {ps : List T} {vs : List V} {N : List Str} {f : Fp} (E : Entry K G H ps vs f) (hN : vs.length ≤ N.length) : SI K ⟨H, G, f⟩ G H (ps ++ List.replicate (N.length - ps.length) .un) (L2.start N vs) := by
  have hl := E.rt.length
  rw [List.length_map] at hl
  refine ⟨⟨_, (RtL.uns (K := K) (G := G) (H := H) (n := N.length - ps.length) (x := List.replicate (N.length - vs.length) none) (by rw [List.length_replicate, hl])).app E.rt (fun b _ z => z), fun b hb => ?_⟩, fun a o e _ _ => e, E.tab, E.gtb, fun a c => (E.fo a c).2.1, Ex.refl G, E.gh, E.pl, fun a o e => Or.inl e⟩
  rcases hb with z | z
  · exact ⟨(E.fo b z).1, (E.fo b z).2.1, Or.inr z, (E.fo b z).2.2⟩
  · exact z.elim
theorem si_end {G H G' H' : Hp} {f : Fp} {ts : List T} {xs : List (Option V)} {r : Env} {x : List (Option V)} (I : SI K ⟨H, G, f⟩ G' H' r x) (lv : ∀ a, H a ≠ none → H' a ≠ none) {f' g : Fp} (hr : RtL K G' H' r x g) (hg : Own ⟨H, G, f⟩ G' H' g) (ht : RtL K G' H' ts xs f') (w : ∀ b, f' b → g b) : End K G H f ts xs G' H' := by
  refine ⟨I.g0, I.gh, I.pl, fun a o e c t => I.keep a o e c t, I.tab, lv, fun a o e => ?_, f', ht, fun b hb => ?_⟩
  · rcases I.gn a o e with q | q | q
    · exact Or.inl q
    · exact Or.inr (Or.inr q)
    · exact Or.inr (Or.inl q)
  · obtain ⟨z1, z2, z3, _⟩ := hg b (w b hb)
    exact ⟨z1, z2, z3.elim Or.inr Or.inl⟩
theorem SI.lv {F : Fx} {G H : Hp} {r : Env} {x : List (Option V)} (I : SI K F G H r x) : ∀ a, F.B a ≠ none → H a ≠ none := fun a h z => by
  exact h (I.Bnone z)
theorem fnD_run {g : SD} {t : TS} {n : Nat} {N : List Str} {fx : List Bool} {G H : Hp} {ps ps' : List T} {vs : List V} {z : Res} {Q : VK} {E : XK} {f : Fp} (hd : DS K (fun i => !(fx[i]? == some true)) (fun c d _ H => E c d H) t g) (hN : n ≤ N.length) (hfx : fx.length = n) (hv : vs.length = n) (e : fnD n N.length fx g ps = some (z, ps')) (En : Entry K G H ps vs f) (q : ResOk K G H f vs ps' Q E z) :
    t { nx := fun _ H' => Q .non H', rt := Q } (L2.start N vs) H := by
  unfold fnD at e
  split at e
  · rename_i hl
    obtain ⟨o, e1, e⟩ := Option.bind_eq_some_iff.mp e
    rw [← hl] at e1
    have out : ∀ {G' H' : Hp} {r : Env} {s' : L2.St} {f' : Fp}, Ex G G' → RtL K G' H' r s' f' → n ≤ r.length → Par (fun i => if fx[i]? = some true then (vs[i]?).map some else none) s' → RtL K G' H' (outP fx ps r) (vs.map some) f' := fun {G' H' r s' f'} xg hr hls p =>
      outP_ok xg (by omega) (by omega) En.rt hr fun j v z1 z2 => p j (some v) (by dsimp only; rw [if_pos z1, z2]; rfl)
    have hA : ∀ i : Nat, (!(fx[i]? == some true)) = true → (if fx[i]? = some true then (vs[i]?).map some else none) = none := fun i h => by
      rw [if_neg]
      intro z
      rw [z] at h
      exact absurd h (by decide)
    have P0 : Par (fun i => if fx[i]? = some true then (vs[i]?).map some else none) (L2.start N vs) := fun i v h => by
      dsimp only at h
      split at h
      · obtain ⟨u, z1, z2⟩ := Option.map_eq_some_iff.mp h
        subst z2
        exact start_get z1
      · cases h
    refine hd ⟨H, G, f⟩ _ G H _ _ o hA (entry_si En (by omega)) P0 e1 _ ?_
    cases o with
    | nx r =>
      dsimp only at e
      split at e
      · rename_i c
        cases e
        intro s' G' H' xg I p
        obtain ⟨h, hr, ho⟩ := I.own
        have k1 := out xg hr c p
        have k2 : RtL K G' H' [.fz .non] [some .non] (fun _ => False) := RtL.fzs (l := [.non]) (vs := [.non]) (.cons .non .nil)
        exact q _ G' H' (si_end I I.lv hr ho (k2.app k1 fun b _ z => z) fun b hb => hb.elim (fun z => z) fun z => z.elim)
      · cases e
    | ex c r =>
      dsimp only at e
      split at e
      · rename_i c
        cases e
        intro s' G' H' xg I p
        obtain ⟨h, hr, ho⟩ := I.own
        exact q G' H' (si_end I I.lv hr ho (out xg hr c p) fun b hb => hb)
      · cases e
    | rt w r =>
      obtain ⟨⟨t1, r1⟩, e2, e⟩ := Option.bind_eq_some_iff.mp e
      dsimp only at e
      split at e
      · rename_i c
        cases e
        intro v s' G' H' xg I hl2 hw p
        have fin : ∀ G2, Ex G' G2 → SI K ⟨H, G, f⟩ G2 H' (r1 ++ [t1]) (s' ++ [some v]) → r1.length = s'.length → Q v H' := fun G2 x2 J l2 => by
          obtain ⟨h, hr, ho⟩ := J.own
          obtain ⟨g1, g2, k1, k2, k3, k4, k5⟩ := hr.split l2
          exact q v G2 H' (si_end J J.lv hr ho (k2.app (out (xg.trans x2) k1 c p) k5) fun b hb => hb.elim (k3 b) (k4 b))
        cases w with
        | sh d => cases e2; exact fin G' (Ex.refl G') (by simpa using fz_in (tm := []) (us := []) (by simpa only [W.tm, W.vl, List.append_nil] using I) hw) hl2
        | nw t => cases e2; exact fin G' (Ex.refl G') (by simpa only [W.tm, W.vl] using I) hl2
        | pl i =>
          unfold retW at e2
          dsimp only at e2
          split at e2
          · obtain ⟨⟨d, r2⟩, e3, e2⟩ := Option.bind_eq_some_iff.mp e2
            cases e2
            obtain ⟨G2, x2, I2, l2, q2⟩ := share_ok (tm := []) (us := []) (v := v) (by simpa only [W.tm, W.vl, List.append_nil] using I) hl2 hw e3
            exact fin G2 x2 (by simpa using fz_in I2 q2) l2
          · split at e2
            · cases e2
            · cases e2
            · rename_i t hu hr
              cases e2
              exact fin G' (Ex.refl G') (by simpa using SI.moved (tm := []) (us := []) (by simpa only [W.tm, W.vl, List.append_nil] using I) hl2 hr hw) (by rw [List.length_set]; exact hl2)
      · cases e
    | bk r => cases e
    | ct r => cases e
  · cases e
/-! ### calls -/
abbrev AD := Env → Option (List W × Env)
def tmL : List W → List T
  | [] => []
  | w :: ws => w.tm ++ tmL ws
def vlL : List W → List V → List (Option V)
  | w :: ws, v :: vs => w.vl v ++ vlL ws vs
  | _, _ => []
def WVs (K : PySem.W.Frag) (G : Hp) (s : L2.St) : List W → List V → Prop
  | [], [] => True
  | w :: ws, v :: vs => WV K G s w v ∧ WVs K G s ws vs
  | _, _ => False
def DA (K : PySem.W.Frag) (ta : TA) (f : AD) : Prop := ∀ F G H r s tm us ws r', SI K F G H (r ++ tm) (s ++ us) → r.length = s.length → f r = some (ws, r') → ∀ Q : List V → Hp → Prop, (∀ vs G' H', Ex G G' → SI K F G' H' (r' ++ (tm ++ tmL ws)) (s ++ (us ++ vlL ws vs)) → r'.length = s.length → WVs K G' s ws vs → Q vs H') → ta s H Q
theorem WV.mono {G G' : Hp} {s : L2.St} {w : W} {v : V} (h : WV K G s w v) (x : Ex G G') : WV K G' s w v := by
  cases w with
  | sh d => exact Rp.mono (show Rp K G d v from h) x
  | nw t => trivial
  | pl i => exact h
def daNil : AD := fun r => some ([], r)
def daCons (f : ED) (g : AD) : AD := fun r => (f r).bind fun p => (g p.2).bind fun q => some (p.1 :: q.1, q.2)
theorem da_nil : DA K tNil daNil := fun F G H r s tm us ws r' I hl e Q q => by
  cases e
  exact q [] G H (Ex.refl G) (by simpa only [tmL, vlL, List.append_nil] using I) hl trivial
theorem da_cons {te : TE} {ta : TA} {f : ED} {g : AD} (h1 : DE K te f) (h2 : DA K ta g) : DA K (tCons te ta) (daCons f g) := fun F G H r s tm us ws r' I hl e Q q => by
  obtain ⟨⟨w, r1⟩, e1, e⟩ := Option.bind_eq_some_iff.mp e
  obtain ⟨⟨ws', r2⟩, e2, e⟩ := Option.bind_eq_some_iff.mp e
  cases e
  refine h1 F G H r s tm us w r1 I hl e1 _ fun v G1 H1 x1 I1 l1 hw => h2 F G1 H1 r1 s (tm ++ w.tm) (us ++ w.vl v) ws' r2 I1 l1 e2 _ fun vs G2 H2 x2 I2 l2 hs => q (v :: vs) G2 H2 (x1.trans x2) ?_ l2 ⟨hw.mono x2, hs⟩
  simpa only [tmL, vlL, List.append_assoc] using I2
def pars (r : Env) : List W → Option (List T × Env)
  | [] => some ([], r)
  | .sh d :: ws => (pars r ws).bind fun p => some (.fz d :: p.1, p.2)
  | .nw t :: ws => (pars r ws).bind fun p => some (t :: p.1, p.2)
  | .pl i :: ws => match r[i]? with
    | some (.fz d) => (pars r ws).bind fun p => some (.fz d :: p.1, p.2)
    | some .un => none
    | none => none
    | some t => (pars (r.set i .un) ws).bind fun p => some (t :: p.1, p.2)
theorem pars_ok {G H : Hp} {s : L2.St} {tm : List T} {us : List (Option V)} : ∀ {ws : List W} {vs : List V} {r r' : Env} {ps : List T} {fa fb : Fp}, r.length = s.length → RtL K G H (r ++ tm) (s ++ us) fa → RtL K G H (tmL ws) (vlL ws vs) fb → (∀ b, fa b → ¬ fb b) → WVs K G s ws vs → pars r ws = some (ps, r') →
    ∃ f1 f2 : Fp, RtL K G H (r' ++ tm) (s ++ us) f1 ∧ RtL K G H ps (vs.map some) f2 ∧ (∀ b, f1 b → fa b) ∧ (∀ b, f2 b → fa b ∨ fb b) ∧ (∀ b, f1 b → ¬ f2 b) ∧ r'.length = s.length := by
  intro ws
  induction ws with
  | nil =>
    intro vs r r' ps fa fb hl h1 h2 d hw e
    cases vs with
    | cons _ _ => exact hw.elim
    | nil =>
      cases e
      exact ⟨fa, fun _ => False, h1, .nil, fun b hb => hb, fun b hb => hb.elim, fun b _ z => z, hl⟩
  | cons w ws ih =>
    intro vs r r' ps fa fb hl h1 h2 d hw e
    cases vs with
    | nil => exact hw.elim
    | cons v vs =>
      obtain ⟨hw1, hw⟩ := hw
      cases w with
      | sh dd =>
        obtain ⟨⟨ps0, r0⟩, e1, e⟩ := Option.bind_eq_some_iff.mp (show (pars r ws).bind _ = some (ps, r') from e)
        cases e
        obtain ⟨f1, f2, k1, k2, k3, k4, k5, k6⟩ := ih hl h1 (by simpa only [tmL, vlL, W.tm, W.vl, List.nil_append] using h2) d hw e1
        exact ⟨f1, f2, k1, .cons (g := fun _ => False) (.fz hw1) k2 (fun b hb => hb.elim) (fun b hb => hb) (fun b hb => hb.elim), k3, k4, k5, k6⟩
      | nw t =>
        obtain ⟨⟨ps0, r0⟩, e1, e⟩ := Option.bind_eq_some_iff.mp (show (pars r ws).bind _ = some (ps, r') from e)
        cases e
        cases h2 with | @cons _ _ _ _ _ g h a1 a2 a3 a4 a5 =>
          obtain ⟨f1, f2, k1, k2, k3, k4, k5, k6⟩ := ih hl h1 a2 (fun b hb z => d b hb (a4 b z)) hw e1
          exact ⟨f1, fun b => g b ∨ f2 b, k1, .cons a1 k2 (fun b hb => Or.inl hb) (fun b hb => Or.inr hb) (fun b hb z => (k4 b z).elim (fun q => d b q (a3 b hb)) (a5 b hb)), k3, fun b hb => hb.elim (fun z => Or.inr (a3 b z)) fun z => (k4 b z).elim Or.inl fun q => Or.inr (a4 b q), fun b hb z => z.elim (fun q => d b (k3 b hb) (a3 b q)) (k5 b hb), k6⟩
      | pl i =>
        have h2' : RtL K G H (tmL ws) (vlL ws vs) fb := by simpa only [tmL, vlL, W.tm, W.vl, List.nil_append] using h2
        unfold pars at e
        split at e
        · rename_i dd hr
          obtain ⟨⟨ps0, r0⟩, e1, e⟩ := Option.bind_eq_some_iff.mp e
          cases e
          have hi : i < r.length := (List.getElem?_eq_some_iff.mp hr).1
          obtain ⟨y, g, h, b1, b2, _⟩ := h1.at (i := i) (by rw [List.getElem?_append_left hi]; exact hr)
          rw [List.getElem?_append_left (by omega), show s[i]? = some (some v) from hw1] at b1
          cases b1
          obtain ⟨f1, f2, k1, k2, k3, k4, k5, k6⟩ := ih hl h1 h2' d hw e1
          cases b2 with | fz q => exact ⟨f1, f2, k1, .cons (g := fun _ => False) (.fz q) k2 (fun b hb => hb.elim) (fun b hb => hb) (fun b hb => hb.elim), k3, k4, k5, k6⟩
        · cases e
        · cases e
        · rename_i t n1 n2 hr
          obtain ⟨⟨ps0, r0⟩, e1, e⟩ := Option.bind_eq_some_iff.mp e
          cases e
          have hi : i < r.length := (List.getElem?_eq_some_iff.mp hr).1
          obtain ⟨y, g, h, b1, b2, b3, b4, b5, b6⟩ := h1.at (i := i) (by rw [List.getElem?_append_left hi]; exact hr)
          have q1 := b6 G H .un y (fun _ => False) (Ex.refl G) (fun _ _ => rfl) .un (fun b hb => hb.elim)
          rw [set_same b1, List.set_append_left _ _ hi] at q1
          rw [List.getElem?_append_left (by omega), show s[i]? = some (some v) from hw1] at b1
          cases b1
          obtain ⟨f1, f2, k1, k2, k3, k4, k5, k6⟩ := ih (by rw [List.length_set]; exact hl) (q1.weak (f' := h) fun b hb => hb.elim (fun z => z.elim) fun z => z) h2' (fun b hb z => d b (b4 b hb) z) hw e1
          exact ⟨f1, fun b => g b ∨ f2 b, k1, .cons b2 k2 (fun b hb => Or.inl hb) (fun b hb => Or.inr hb) (fun b hb z => (k4 b z).elim (b5 b hb) fun q => d b (b3 b hb) q), fun b hb => b4 b (k3 b hb), fun b hb => hb.elim (fun z => Or.inl (b3 b z)) fun z => (k4 b z).elim (fun q => Or.inl (b4 b q)) Or.inr, fun b hb z => z.elim (fun q => b5 b q (k3 b hb)) (k5 b hb), k6⟩
def putBack (r : Env) (i : Nat) (p : T) : Env := match r[i]? with
  | some .un => r.set i p
  | _ => r
def back : Env → List W → List T → Env
  | r, .pl i :: ws, p :: ps => back (putBack r i p) ws ps
  | r, _ :: ws, _ :: ps => back r ws ps
  | r, _, _ => r
theorem back_ok {G H : Hp} {s : L2.St} {tm : List T} {us : List (Option V)} : ∀ {ws : List W} {vs : List V} {r : Env} {ps : List T} {fa fb : Fp}, r.length = s.length → RtL K G H (r ++ tm) (s ++ us) fa → RtL K G H ps (vs.map some) fb → (∀ b, fa b → ¬ fb b) → WVs K G s ws vs →
    ∃ f1 : Fp, RtL K G H (back r ws ps ++ tm) (s ++ us) f1 ∧ (∀ b, f1 b → fa b ∨ fb b) ∧ (back r ws ps).length = s.length := by
  intro ws
  induction ws with
  | nil =>
    intro vs r ps fa fb hl h1 h2 d hw
    have e : back r [] ps = r := by cases ps <;> rfl
    rw [e]
    exact ⟨fa, h1, fun b hb => Or.inl hb, hl⟩
  | cons w ws ih =>
    intro vs r ps fa fb hl h1 h2 d hw
    cases vs with
    | nil => exact hw.elim
    | cons v vs =>
      obtain ⟨hw1, hw⟩ := hw
      cases ps with
      | nil => cases h2
      | cons p ps =>
        cases h2 with | @cons _ _ _ _ _ g h a1 a2 a3 a4 a5 =>
          have go : ∃ f1 : Fp, RtL K G H (back r ws ps ++ tm) (s ++ us) f1 ∧ (∀ b, f1 b → fa b ∨ fb b) ∧ (back r ws ps).length = s.length := by
            obtain ⟨f1, k1, k2, k3⟩ := ih hl h1 a2 (fun b hb z => d b hb (a4 b z)) hw
            exact ⟨f1, k1, fun b hb => (k2 b hb).elim Or.inl fun z => Or.inr (a4 b z), k3⟩
          cases w with
          | sh dd => exact go
          | nw t => exact go
          | pl i =>
            show ∃ f1 : Fp, RtL K G H (back (putBack r i p) ws ps ++ tm) (s ++ us) f1 ∧ (∀ b, f1 b → fa b ∨ fb b) ∧ (back (putBack r i p) ws ps).length = s.length
            unfold putBack
            split
            · rename_i hr
              have hi : i < r.length := (List.getElem?_eq_some_iff.mp hr).1
              obtain ⟨y, g0, h0, b1, b2, b3, b4, b5, b6⟩ := h1.at (i := i) (by rw [List.getElem?_append_left hi]; exact hr)
              rw [List.getElem?_append_left (by omega), show s[i]? = some (some v) from hw1] at b1
              cases b1
              have q1 := b6 G H p (some v) g (Ex.refl G) (fun _ _ => rfl) a1 (fun b hb z => d b (b4 b z) (a3 b hb))
              rw [List.set_append_left _ _ hi, set_same (show (s ++ us)[i]? = some (some v) by rw [List.getElem?_append_left (by omega)]; exact hw1)] at q1
              obtain ⟨f1, k1, k2, k3⟩ := ih (by rw [List.length_set]; exact hl) q1 a2 (fun b hb z => hb.elim (fun q => a5 b q z) fun q => d b (b4 b q) (a4 b z)) hw
              exact ⟨f1, k1, fun b hb => (k2 b hb).elim (fun z => z.elim (fun q => Or.inr (a3 b q)) fun q => Or.inl (b4 b q)) fun z => Or.inr (a4 b z), k3⟩
            · exact go
def resW : T → W
  | .fz d => .sh d
  | t => .nw t
theorem WVs.mono {G G' : Hp} {s : L2.St} (x : Ex G G') : ∀ {ws : List W} {vs : List V}, WVs K G s ws vs → WVs K G' s ws vs
  | [], [], _ => trivial
  | [], _ :: _, h => h.elim
  | _ :: _, [], h => h.elim
  | _ :: _, _ :: _, ⟨h1, h2⟩ => ⟨h1.mono x, h2.mono x⟩
theorem WVs.len {G : Hp} {s : L2.St} : ∀ {ws : List W} {vs : List V}, WVs K G s ws vs → ws.length = vs.length
  | [], [], _ => rfl
  | [], _ :: _, h => h.elim
  | _ :: _, [], h => h.elim
  | _ :: _, _ :: _, ⟨_, h2⟩ => congrArg Nat.succ h2.len
theorem call_ok {F : Fx} {G H : Hp} {r r2 : Env} {s : L2.St} {tm : List T} {us : List (Option V)} {ws : List W} {vs : List V} {ps : List T} (I : SI K F G H (r ++ (tm ++ tmL ws)) (s ++ (us ++ vlL ws vs))) (hl : r.length = s.length) (ht : tm.length = us.length) (hw : WVs K G s ws vs) (e : pars r ws = some (ps, r2)) :
    ∃ f, Entry K G H ps vs f ∧
      (∀ ps' G' H', End K G H f ps' (vs.map some) G' H' → SI K F G' H' (back r2 ws ps' ++ tm) (s ++ us) ∧ (back r2 ws ps').length = s.length) ∧
      ∀ ps' t v G' H', End K G H f (ps' ++ [t]) (vs.map some ++ [some v]) G' H' → ps'.length = vs.length → SI K F G' H' (back r2 ws ps' ++ (tm ++ (resW t).tm)) (s ++ (us ++ (resW t).vl v)) ∧ (back r2 ws ps').length = s.length ∧ WV K G' s (resW t) v := by
  obtain ⟨f, hr, hf⟩ := I.own
  simp only [← List.append_assoc] at hr
  obtain ⟨ga, gb, h1, h2, h3, h4, h5⟩ := hr.split (by simp; omega)
  obtain ⟨f1, f2, k1, k2, k3, k4, k5, k6⟩ := pars_ok hl h1 h2 h5 hw e
  have f2f : ∀ b, f2 b → f b := fun b hb => (k4 b hb).elim (h3 b) (h4 b)
  have f1f : ∀ b, f1 b → f b := fun b hb => h3 b (k3 b hb)
  have after : ∀ {ps' : List T} {G' H' : Hp} {fb : Fp}, Ex G G' → Sub G' H' → Plain G' → (∀ a o, H a = some o → ¬ f2 a → ¬ TbS.tb a → H' a = some o) → (∀ a, H a ≠ none → H' a ≠ none) → (∀ a o, G' a = some o → G a = some o ∨ f2 a ∨ H a = none) →
      RtL K G' H' ps' (vs.map some) fb → (∀ b, fb b → G' b = none ∧ H' b ≠ none ∧ (f2 b ∨ H b = none)) → ∃ fc : Fp, RtL K G' H' (back r2 ws ps' ++ tm) (s ++ us) fc ∧ (∀ b, fc b → f1 b ∨ fb b) ∧ (∀ b, f1 b → G' b = none ∧ H' b ≠ none) ∧ (back r2 ws ps').length = s.length := fun {ps' G' H' fb} x1 x2 x3 kp lv gn rp ob => by
    have same : ∀ b, f1 b → H' b = H b := fun b hb => by
      cases z : H b with
      | none => exact absurd z (hf b (f1f b hb)).2.1
      | some o => exact kp b o z (k5 b hb) (hf b (f1f b hb)).2.2.2
    obtain ⟨fc, c1, c2, c3⟩ := back_ok k6 (k1.frame x1 same) rp (fun b hb z => (ob b z).2.2.elim (k5 b hb) fun q => (hf b (f1f b hb)).2.1 q) (hw.mono x1)
    refine ⟨fc, c1, c2, fun b hb => ⟨?_, lv b (hf b (f1f b hb)).2.1⟩, c3⟩
    cases z : G' b with
    | none => rfl
    | some o =>
      rcases gn b o z with q | q | q
      · rw [(hf b (f1f b hb)).1] at q; cases q
      · exact absurd q (k5 b hb)
      · exact absurd q (hf b (f1f b hb)).2.1
  refine ⟨f2, ⟨k2, fun b hb => ⟨(hf b (f2f b hb)).1, (hf b (f2f b hb)).2.1, (hf b (f2f b hb)).2.2.2⟩, I.gh, I.pl, I.tab, I.gtb⟩, fun ps' G' H' En => ?_, fun ps' t v G' H' En lp => ?_⟩
  · obtain ⟨fb, rb, ob⟩ := En.rt
    obtain ⟨fc, c1, c2, c3, c4⟩ := after En.gg En.gh En.pl En.keep En.lv En.gn rb ob
    refine ⟨I.nextT f hf En.gg En.gh En.pl (fun a o z q t => En.keep a o z (fun w => q (f2f a w)) t) En.tab En.lv (fun a o z => (En.gn a o z).elim Or.inl fun q => q.elim (fun q => Or.inr (Or.inl (f2f a q))) fun q => Or.inr (Or.inr q)) c1 (fun b hb => ?_), c4⟩
    rcases c2 b hb with q | q
    · exact ⟨(c3 b q).1, (c3 b q).2, Or.inl (f1f b q)⟩
    · exact ⟨(ob b q).1, (ob b q).2.1, (ob b q).2.2.elim (fun z => Or.inl (f2f b z)) Or.inr⟩
  · obtain ⟨fb, rb, ob⟩ := En.rt
    obtain ⟨g1, g2, m1, m2, m3, m4, m5⟩ := rb.split (by rw [List.length_map]; exact lp)
    obtain ⟨fc, c1, c2, c3, c4⟩ := after En.gg En.gh En.pl En.keep En.lv En.gn m1 (fun b hb => ob b (m3 b hb))
    have hfc : ∀ b, fc b → G' b = none ∧ H' b ≠ none ∧ (f b ∨ H b = none) := fun b hb => by
      rcases c2 b hb with q | q
      · exact ⟨(c3 b q).1, (c3 b q).2, Or.inl (f1f b q)⟩
      · exact ⟨(ob b (m3 b q)).1, (ob b (m3 b q)).2.1, (ob b (m3 b q)).2.2.elim (fun z => Or.inl (f2f b z)) Or.inr⟩
    have nx : ∀ {r' : List T} {x' : List (Option V)} {f' : Fp}, RtL K G' H' r' x' f' → (∀ b, f' b → G' b = none ∧ H' b ≠ none ∧ (f b ∨ H b = none)) → SI K F G' H' r' x' := fun rr hh =>
      I.nextT f hf En.gg En.gh En.pl (fun a o z q t => En.keep a o z (fun w => q (f2f a w)) t) En.tab En.lv (fun a o z => (En.gn a o z).elim Or.inl fun q => q.elim (fun q => Or.inr (Or.inl (f2f a q))) fun q => Or.inr (Or.inr q)) rr hh
    have own : ∀ t0, RtL K G' H' [t0] [some v] g2 → SI K F G' H' (back r2 ws ps' ++ (tm ++ [t0])) (s ++ (us ++ [some v])) := fun t0 mm => by
      have := mm.app c1 fun b hb z => (c2 b hb).elim (fun q => (ob b (m4 b z)).2.2.elim (k5 b q) fun w => (hf b (f1f b q)).2.1 w) fun q => m5 b q z
      simp only [← List.append_assoc]
      exact nx this fun b hb => hb.elim (hfc b) fun z => ⟨(ob b (m4 b z)).1, (ob b (m4 b z)).2.1, (ob b (m4 b z)).2.2.elim (fun z => Or.inl (f2f b z)) Or.inr⟩
    cases t with
    | fz d =>
      refine ⟨by simpa only [resW, W.tm, W.vl, List.append_nil] using nx c1 hfc, c4, ?_⟩
      cases m2 with | cons a1 _ _ _ _ => cases a1 with | fz q => exact q
    | un => exact ⟨own _ m2, c4, trivial⟩
    | ls l => exact ⟨own _ m2, c4, trivial⟩
    | tp l => exact ⟨own _ m2, c4, trivial⟩
    | dk ks l => exact ⟨own _ m2, c4, trivial⟩
    | dt ks l => exact ⟨own _ m2, c4, trivial⟩
    | ob C ns l => exact ⟨own _ m2, c4, trivial⟩
    | st ks => exact ⟨own _ m2, c4, trivial⟩
    | dn ks l => exact ⟨own _ m2, c4, trivial⟩
/-- f(..), where nothing is raised -/
def dCall (fn : FnT) (f : AD) : ED := fun r => (f r).bind fun p => (pars p.2 p.1).bind fun q => (fn q.1).bind fun z => match z.1 with
  | .ret t => if z.2.length = p.1.length then some (resW t, back q.2 p.1 z.2) else none
  | .exc _ => none
theorem de_ucall {n : Nat} {fn : FnT} {f : AD} {ta : TA} {E : XK} (hn : ∀ ps z, fn ps = some z → ps.length = n) (h : DA K ta f) : DE K (tCall (spD K n fn) [] E ta) (dCall fn f) := fun F G H r s tm us w r' I hl e Q q => by
  obtain ⟨⟨ws, r1⟩, e1, e⟩ := Option.bind_eq_some_iff.mp e
  obtain ⟨⟨ps, r2⟩, e2, e⟩ := Option.bind_eq_some_iff.mp e
  obtain ⟨⟨z, ps'⟩, e3, e⟩ := Option.bind_eq_some_iff.mp e
  have ht : tm.length = us.length := by have := I.len; simp at this; omega
  cases z with
  | exc c => cases e
  | ret t =>
    dsimp only at e
    split at e
    · rename_i c
      cases e
      refine h F G H r s tm us ws r1 I hl e1 _ fun vs G1 H1 x1 I1 l1 hw => ?_
      obtain ⟨f0, En, _, k2⟩ := call_ok I1 l1 ht hw e2
      have lv : ps.length = vs.length := by have := En.rt.length; rw [List.length_map] at this; exact this
      refine ⟨by rw [List.append_nil, ← lv]; exact hn ps _ e3, G1, f0, ps, .ret t, ps', e3, by rw [List.append_nil]; exact En, fun v G2 H2 Ed => ?_⟩
      rw [List.append_nil] at Ed
      obtain ⟨j1, j2, j3⟩ := k2 ps' t v G2 H2 Ed (by rw [c]; exact hw.len)
      exact q v G2 H2 (x1.trans Ed.gg) j1 j2 j3
    · cases e
/-- f(..), of which a refusal may come -/
def dCallX (fn : FnT) (f : AD) : XD := fun r => (f r).bind fun p => (pars p.2 p.1).bind fun q => (fn q.1).bind fun z => match z.1 with
  | .ret t => if z.2.length = p.1.length then some (.inl (resW t), back q.2 p.1 z.2) else none
  | .exc c => some (.inr c, back q.2 p.1 z.2)
theorem dx_ucall {X : WX} {n : Nat} {fn : FnT} {f : AD} {ta : TA} (hn : ∀ ps z, fn ps = some z → ps.length = n) (h : DA K ta f) : DX K X (tCallS (spD K n fn) (WE X) ta) (dCallX fn f) := fun F G H r s zz r' I e Q q => by
  obtain ⟨⟨ws, r1⟩, e1, e⟩ := Option.bind_eq_some_iff.mp e
  obtain ⟨⟨ps, r2⟩, e2, e⟩ := Option.bind_eq_some_iff.mp e
  obtain ⟨⟨z, ps'⟩, e3, e⟩ := Option.bind_eq_some_iff.mp e
  refine h F G H r s [] [] ws r1 (by simpa only [List.append_nil] using I) I.len e1 _ fun vs G1 H1 x1 I1 l1 hw => ?_
  obtain ⟨f0, En, k1, k2⟩ := call_ok I1 l1 rfl hw e2
  have lv : ps.length = vs.length := by have := En.rt.length; rw [List.length_map] at this; exact this
  cases z with
  | exc c =>
    cases e
    refine ⟨by rw [← lv]; exact hn ps _ e3, G1, f0, ps, .exc c, ps', e3, En, fun G2 H2 Ed => ?_⟩
    exact q G2 H2 (x1.trans Ed.gg) (by simpa only [List.append_nil] using (k1 ps' G2 H2 Ed).1)
  | ret t =>
    dsimp only at e
    split at e
    · rename_i c
      cases e
      refine ⟨by rw [← lv]; exact hn ps _ e3, G1, f0, ps, .ret t, ps', e3, En, fun v G2 H2 Ed => ?_⟩
      obtain ⟨j1, j2, j3⟩ := k2 ps' t v G2 H2 Ed (by rw [c]; exact hw.len)
      exact q v G2 H2 (x1.trans Ed.gg) (by simpa only [List.nil_append] using j1) j2 j3
    · cases e
theorem fnD_len {n N : Nat} {fx : List Bool} {g : SD} (ps : List T) (z : Res × List T) (e : fnD n N fx g ps = some z) : ps.length = n := by
  unfold fnD at e
  split at e
  · assumption
  · cases e
end
end Q
set_option Elab.async false
set_option linter.all false
set_option maxRecDepth 100000
set_option maxHeartbeats 2000000
namespace Q
open PySem PySem.Spec PyProof.Rows L2
variable [TbS]
/-! ### a def's promise where no guard of repr stands around -/
structure FnG (P : Program) (w : World) (K : PySem.W.Frag) (mg : Str → Option Value) (base : Heap) (k : Nat) (f : Addr) (fd : FuncData) (ps : List Str) (sp : Sp) : Prop where
  len : ∀ vs H Q E, sp vs H Q E → vs.length = ps.length
  run : ∀ (A : Around) (outer : List PySem.Env) (s : Shared) (H : Hp) (args : Args) (us : List Value) (vs : List V) (Q : VK) (E : XK), Room k A → A.guards = some [] → Env0 P w K mg base A outer s H → BindsTo s fd args (ps.zip us) → Vals vs us → sp vs H Q E →
    codeAny (model P w) A (.call (.ref f) args) (CR (L2.CX P w) outer P w H s Q E) s
theorem FnG.mono {P : Program} {w : World} {K : PySem.W.Frag} {mg : Str → Option Value} {base : Heap} {j k : Nat} {f : Addr} {fd : FuncData} {ps : List Str} {sp : Sp} (h : FnG P w K mg base j f fd ps sp) (l : j ≤ k) : FnG P w K mg base k f fd ps sp :=
  ⟨h.len, fun A outer s H args us vs Q E hr => h.run A outer s H args us vs Q E (Room.mono hr l)⟩
section
variable {K : PySem.W.Frag}
theorem fn_okC {P : Program} {w : World} {mg : Str → Option Value} {base : Heap} {x qual : Str} {st : Stmt} {f : Addr} {fd : FuncData} {N ps : List Str} {k : Nat} {g : SD} {fx : List Bool} (F : Fun K x qual st f fd) (S : FnScope N ps (defScope st)) (hfx : fx.length = ps.length)
    (hb : ∀ (cdv : Value) (A : Around) (outer : List PySem.Env) (s : Shared) (H : Hp) (E : XK), fd.code = cdv → A.guards = some [] → Room k (A.deeper (envOfC qual (defScope st) s.heap.objs.size f cdv)) →
      ∃ t, PSs (cxOf (L2.CX P w) P w K mg base N qual (defScope st) f cdv A outer s H E) (defBody st) t ∧ DS K (fun i => !(fx[i]? == some true)) (fun c d _ H => E c d H) t g) : FnG P w K mg base (k + 1) f fd ps (spD K ps.length (fnD ps.length N.length fx g)) := by
  obtain ⟨oc, od, kV, doc, pm, an, cdv, ct, osl, rfl, lk, hcd⟩ := F.ex
  have hN : ps.length ≤ N.length := by have := congrArg List.length S.pre; rw [List.length_take] at this; omega
  refine ⟨fun vs H Q E h => h.1, fun A outer s H args us vs Q E room gu e0 bd vals hsp => ?_⟩
  have old : ∀ b o, base.get? b = some o → s.heap.get? b = some o := fun b o e => (e0.bs b o e).1
  have kin : K.In s.heap := e0.mod.kin.keeps old
  refine codeAny_call_function room.depth (kin _ _ lk) rfl S.co S.gen rfl (PySem.W.codeRec_of kin hcd) (bd _ _ _ _ ?_)
  refine wpAny_newFunctionEnv_cells S.kind (fun ⟨n, v⟩ hy => ?_) fun env he s1 inc => ?_
  · rcases S.par n (List.of_mem_zip hy).1 with z | z
    · exact Or.inl z
    · exact Or.inr ⟨z, PySem.W.cellsFrom_some _ _ _ (Or.inl z)⟩
  · subst he
    refine ⟨(e0.mod.nolimit.keeps old).keeps inc.toInCall.keep, codeAny_func ?_⟩
    obtain ⟨t, p1, p2⟩ := hb cdv A outer s H E rfl gu (room.deeper _)
    obtain ⟨lv, G, fp, pss, z, ps', e, En, q⟩ := hsp
    have start0 := inv_start (CX := L2.CX P w) (E := E) (f := f) S room.hd e0 lv vals inc
    refine wpAny_mono (p1.run [] s1 (L2.start N vs) H _ start0 (fnD_run p2 hN hfx lv e En q)) (fun fl s' done => ?_) fun _ _ z => z
    cases fl with
    | brk => obtain ⟨_, _, _, z⟩ := done; exact z.elim
    | cont => obtain ⟨_, _, _, z⟩ := done; exact z.elim
    | ret u => obtain ⟨v, _, H', J, rv, z⟩ := done; exact ⟨v, H', J.os, J.bare, J.base, J.hok, rv, z⟩
    | next => obtain ⟨_, H', J, z⟩ := done; exact ⟨.non, H', J.os, J.bare, J.base, J.hok, rfl, z⟩
theorem fn_ok {P : Program} {w : World} {mg : Str → Option Value} {base : Heap} {x qual : Str} {st : Stmt} {f : Addr} {fd : FuncData} {N ps : List Str} {k : Nat} {g : SD} {fx : List Bool} (F : Fun K x qual st f fd) (S : FnScope N ps (defScope st)) (hfx : fx.length = ps.length)
    (hb : ∀ (cdv : Value) (A : Around) (outer : List PySem.Env) (s : Shared) (H : Hp) (E : XK), A.guards = some [] → Room k (A.deeper (envOfC qual (defScope st) s.heap.objs.size f cdv)) →
      ∃ t, PSs (cxOf (L2.CX P w) P w K mg base N qual (defScope st) f cdv A outer s H E) (defBody st) t ∧ DS K (fun i => !(fx[i]? == some true)) (fun c d _ H => E c d H) t g) : FnG P w K mg base (k + 1) f fd ps (spD K ps.length (fnD ps.length N.length fx g)) :=
  fn_okC F S hfx fun cdv A outer s H E _ gu hr => hb cdv A outer s H E gu hr
end
section
variable {X : Cx} {k : Nat} {f : Addr} {fd : FuncData} {ps : List Str} {sp : Sp} {E : L2.St → XK} {x : Str} {p pos : Pos} {e : Expr} {es : List Expr} {t : TA}
theorem run_fn {pins : List (Addr × Obj)} {σ : L2.St} {H : Hp} {s : Shared} {Q : VK} {us : List Value} {vs : List V} (F : FnG X.prog X.w X.K X.mg X.base k f fd ps sp) (hr : Room k X.A) (gu : X.A.guards = some []) (hb : Binds X.K fd ps []) (hx : PassesAt (L2.CX X.prog X.w) X σ (E σ))
    (I : Inv X pins σ H s) (rv : Vals vs us) (h : sp vs H Q (E σ)) : wpAny (model X.prog X.w) X.A (call (.ref f) us) (EP X pins σ Q) X.xe s := by
  have hl : (us ++ []).length = ps.length := by rw [List.append_nil, ← rv.length]; exact F.len _ _ _ _ h
  have bd := hb s us I.kIn hl
  rw [List.append_nil] at bd
  refine wpAny_call (codeAny_mono (F.run X.A X.stack s H ⟨us, []⟩ us vs Q (E σ) hr gu I.env0 bd rv h) fun res s' told => ?_)
  match res, told with
  | .error er, told => exact hx pins H s er s' I told
  | .ok (.ret u), told => exact I.after told
/-- f(e, ..) -/
theorem pe_fn (F : FnG X.prog X.w X.K X.mg X.base k f fd ps sp) (hr : Room k X.A) (gu : X.A.guards = some []) (hg : Gl X x) (hm : X.mg x = some (.ref f)) (hk : PySem.W.keepIn X.K (.ref f) = true) (hb : Binds X.K fd ps []) (hx : ∀ σ, PassesAt (L2.CX X.prog X.w) X σ (E σ))
    (ha : PA X (e :: es) t) (hdb : (x == ("__debug__" : Str)) = false := by decide) (he : starEach (e :: es) X.env = (false, eval e X.env) :: starEach es X.env := by rfl) (hpl : (backTo pos (starEach es X.env)).any (·.1) = false := by rfl) :
    PE X (.Call (.Name x p) (e :: es) [] pos) (tCallS sp E t) := by
  refine ⟨fun pins s σ H Q I h => wpAny_Call_Name_kw (ld_glob I hg hm ?_ hdb)⟩
  refine PySem.W.callWith_K (h₀ := X.base) I.ok.mod.kin hk (thn (ha.run pos pins s σ H _ I h) fun us s1 done => ?_) he hpl
  obtain ⟨vs, H1, I1, rv, q⟩ := done
  exact ⟨I1.kIn, run_fn F hr gu hb (hx σ) I1 rv q⟩
theorem passNo {X : Cx} (σ : L2.St) : PassesAt (L2.CX X.prog X.w) X σ ((fun _ _ _ _ => False : L2.St → XK) σ) := fun _ _ _ _ _ _ c => by
  obtain ⟨_, _, _, _, _, _, _, _, _, _, _, _, z⟩ := c
  exact z.elim
end
section
variable {K : PySem.W.Frag}
/-- f(..) by its worth, where nothing is raised -/
theorem de_fn {n : Nat} {fn : FnT} {f : AD} {ta : TA} {E : L2.St → XK} (hn : ∀ ps z, fn ps = some z → ps.length = n) (h : DA K ta f) : DE K (tCallS (spD K n fn) E ta) (dCall fn f) := fun F G H r s tm us w r' I hl e Q q => by
  have := de_ucall (E := E s) hn h F G H r s tm us w r' I hl e Q q
  unfold tCall at this
  simp only [List.append_nil] at this
  exact this
/-! ### operations -/
def gRI (C : Int → Int → Prop) [∀ i j, Decidable (C i j)] (h : Int → Int → D) : List D → Option Rs
  | [.int i, .int j] => if C i j then some (.val (h i j)) else none
  | _ => none
theorem dc_rI {C : Int → Int → Prop} [∀ i j, Decidable (C i j)] {h : Int → Int → D} {hv : Int → Int → V} (rp : ∀ G i j, Rp K G (h i j) (hv i j)) : DC K (rl2 (rI C hv)) (gRI C h) := fun G H xs vs z _ _ q e Q k => by
  unfold gRI at e
  split at e
  · rename_i i j
    split at e
    · rename_i c
      cases e
      cases q with | cons a q => cases q with | cons b q => cases q; cases a; cases b; exact ⟨i, j, rfl, rfl, c, k _ (rp G i j)⟩
    · cases e
  · cases e
def gRI0 (h : Int → Int → D) : List D → Option Rs
  | [.int i, .int j] => some (.val (h i j))
  | _ => none
theorem dc_rI0 {h : Int → Int → D} {hv : Int → Int → V} (rp : ∀ G i j, Rp K G (h i j) (hv i j)) : DC K (rl2 (rI0 hv)) (gRI0 h) := fun G H xs vs z _ _ q e Q k => by
  unfold gRI0 at e
  split at e
  · rename_i i j
    cases e
    cases q with | cons a q => cases q with | cons b q => cases q; cases a; cases b; exact ⟨i, j, rfl, rfl, k _ (rp G i j)⟩
  · cases e
def gAdd := gRI0 fun i j => .int (i + j)
def gSubI := gRI0 fun i j => .int (i - j)
instance : ∀ i j, Decidable (CMulW i j) := fun i j => inferInstanceAs (Decidable (_ < _))
instance : ∀ i j, Decidable (CMul i j) := fun i j => inferInstanceAs (Decidable (_ ∨ _))
instance : ∀ i j, Decidable (CDivW i j) := fun i j => inferInstanceAs (Decidable (_ ∧ _))
instance : ∀ i j, Decidable (CPow i j) := fun i j => inferInstanceAs (Decidable (_ ∧ _))
def gMul := gRI CMulW fun i j => .int (i * j)
def gMul1 := gRI CMul fun i j => .int (i * j)
def gMod := gRI (fun _ j => 0 < j) fun i j => .int (i % j)
def gDiv := gRI CDivW fun i j => .int (i / j)
def gPow := gRI CPow fun i j => .int (i ^ j.toNat)
def gShl := gRI CPow fun i j => .int (i * 2 ^ j.toNat)
def gShr := gRI (fun _ j => 0 ≤ j) fun i j => .int (i / 2 ^ j.toNat)
def gBand := gRI0 fun i j => .int (Builtin.bitAnd i j)
def gBor := gRI0 fun i j => .int (Builtin.bitOr i j)
def gBxor := gRI0 fun i j => .int (Builtin.bitXor i j)
def gLt := gRI0 fun i j => .bl (decide (i < j))
def gLe := gRI0 fun i j => .bl (decide (i ≤ j))
def gGt := gRI0 fun i j => .bl (decide (j < i))
def gGe := gRI0 fun i j => .bl (decide (j ≤ i))
theorem dc_add : DC K (rl2 (rI0 fun i j => .int (i + j))) gAdd := dc_rI0 fun _ i j => .int _
theorem dc_sub : DC K (rl2 (rI0 fun i j => .int (i - j))) gSubI := dc_rI0 fun _ i j => .int _
theorem dc_mul : DC K (rl2 (rI CMulW fun i j => .int (i * j))) gMul := dc_rI fun _ i j => .int _
theorem dc_mul1 : DC K (rl2 (rI CMul fun i j => .int (i * j))) gMul1 := dc_rI fun _ i j => .int _
theorem dc_mod : DC K (rl2 (rI (fun _ j => 0 < j) fun i j => .int (i % j))) gMod := dc_rI fun _ i j => .int _
theorem dc_div : DC K (rl2 (rI CDivW fun i j => .int (i / j))) gDiv := dc_rI fun _ i j => .int _
theorem dc_pow : DC K (rl2 (rI CPow fun i j => .int (i ^ j.toNat))) gPow := dc_rI fun _ i j => .int _
theorem dc_lt : DC K (rl2 (rI0 fun i j => .bl (decide (i < j)))) gLt := dc_rI0 fun _ i j => .bl _
theorem dc_le : DC K (rl2 (rI0 fun i j => .bl (decide (i ≤ j)))) gLe := dc_rI0 fun _ i j => .bl _
theorem dc_gt : DC K (rl2 (rI0 fun i j => .bl (decide (j < i)))) gGt := dc_rI0 fun _ i j => .bl _
theorem dc_ge : DC K (rl2 (rI0 fun i j => .bl (decide (j ≤ i)))) gGe := dc_rI0 fun _ i j => .bl _
def gNeg : List D → Option Rs
  | [.int i] => some (.val (.int (-i)))
  | _ => none
theorem dc_neg : DC K (rl1 (rU fun i => .int (-i))) gNeg := fun G H xs vs z _ _ q e Q k => by
  unfold gNeg at e
  split at e
  · cases e
    cases q with | cons a q => cases q; cases a; exact ⟨_, rfl, k _ (.int _)⟩
  · cases e
/-- t + u, tuples -/
def gCatT : List D → Option Rs
  | [.tup a, .tup b] => if a.length + b.length ≤ 1000000 then some (.newT (a ++ b)) else none
  | _ => none
def gCatL : List D → Option Rs
  | [.lst a, .lst b] => if a.length + b.length ≤ 1000000 then some (.newL (a ++ b)) else none
  | _ => none
theorem dc_catL : DC K (rl2 rCat) gCatL := fun G H xs vs z sb pl q e Q k => by
  unfold gCatL at e
  split at e
  · rename_i a b
    split at e
    · rename_i c
      cases e
      cases q with | cons x q => cases q with | cons y q =>
        cases q
        cases x with | lst x1 x2 => cases y with | lst y1 y2 =>
          exact ⟨_, _, _, _, rfl, rfl, sub_ex sb x1, sub_ex sb y1, big (by rw [← x2.length, ← y2.length]; exact c), fun p hp => k p _ hp (x2.append y2)⟩
    · cases e
  · cases e
/-! ### data as the library's data -/
mutual
def D.py : D → Option PyData
  | .non => some .none
  | .bl b => some (.bool b)
  | .int i => some (.int i)
  | .str x => some (.str x)
  | .tup l => (pyL l).map .tuple
  | .lst l => (pyL l).map .list
  | _ => none
def pyL : List D → Option (List PyData)
  | [] => some []
  | d :: l => d.py.bind fun x => (pyL l).map (x :: ·)
end
mutual
theorem py_dp {H : Hp} : ∀ (d : D) (v : V) (x : PyData), Rp K H d v → d.py = some x → Dp K H v x
  | _, _, x, .non, e => by unfold D.py at e; cases e; exact .non
  | _, _, x, .bl b, e => by unfold D.py at e; cases e; exact .bl b
  | _, _, x, .int i, e => by unfold D.py at e; cases e; exact .int i
  | _, _, x, .str z, e => by unfold D.py at e; cases e; exact .str z
  | _, _, x, .lst h q, e => by
    unfold D.py at e
    obtain ⟨xs, e1, e2⟩ := Option.map_eq_some_iff.mp e
    subst e2
    exact .lst (Or.inl (Or.inl h)) (pyL_dp _ _ xs q e1)
  | _, _, x, .tup h q, e => by
    unfold D.py at e
    obtain ⟨xs, e1, e2⟩ := Option.map_eq_some_iff.mp e
    subst e2
    exact .tup h (pyL_dp _ _ xs q e1)
  | _, _, x, .scr h, e => by unfold D.py at e; cases e
  | _, _, x, .dk h l m q, e => by unfold D.py at e; cases e
  | _, _, x, .dt h l k m q, e => by unfold D.py at e; cases e
  | _, _, x, .exc h, e => by unfold D.py at e; cases e
  | _, _, x, .fnc a, e => by unfold D.py at e; cases e
theorem pyL_dp {H : Hp} : ∀ (d : List D) (v : List V) (x : List PyData), RpL K H d v → pyL d = some x → DpAll K H v x
  | _, _, x, .nil, e => by unfold pyL at e; cases e; exact .nil
  | _, _, x, .cons h q, e => by
    unfold pyL at e
    obtain ⟨y, e1, e2⟩ := Option.bind_eq_some_iff.mp e
    obtain ⟨ys, e3, e4⟩ := Option.map_eq_some_iff.mp e2
    subst e4
    exact .cons (py_dp _ _ y h e1) (pyL_dp _ _ ys q e3)
end
def gEq : List D → Option Rs
  | [a, b] => a.py.bind fun x => b.py.bind fun y => if SeqAt.shaped x = true ∧ SeqAt.shaped y = true then some (.val (.bl (PyData.eqv x y))) else none
  | _ => none
def gNe : List D → Option Rs
  | [a, b] => a.py.bind fun x => b.py.bind fun y => if SeqAt.shaped x = true ∧ SeqAt.shaped y = true then some (.val (.bl (!PyData.eqv x y))) else none
  | _ => none
theorem dc_eq : DC K (rl2 (rEqD K)) gEq := fun G H xs vs z sb pl q e Q k => by
  unfold gEq at e
  split at e
  · obtain ⟨x, e1, e⟩ := Option.bind_eq_some_iff.mp e
    obtain ⟨y, e2, e⟩ := Option.bind_eq_some_iff.mp e
    split at e
    · rename_i c
      cases e
      cases q with | cons p q => cases q with | cons p2 q => cases q; exact ⟨x, y, py_dp _ _ x (Rp.sub pl sb _ _ p) e1, py_dp _ _ y (Rp.sub pl sb _ _ p2) e2, c.1, c.2, k _ (.bl _)⟩
    · cases e
  · cases e
theorem dc_ne : DC K (rl2 (rNeD K)) gNe := fun G H xs vs z sb pl q e Q k => by
  unfold gNe at e
  split at e
  · obtain ⟨x, e1, e⟩ := Option.bind_eq_some_iff.mp e
    obtain ⟨y, e2, e⟩ := Option.bind_eq_some_iff.mp e
    split at e
    · rename_i c
      cases e
      cases q with | cons p q => cases q with | cons p2 q => cases q; exact ⟨x, y, py_dp _ _ x (Rp.sub pl sb _ _ p) e1, py_dp _ _ y (Rp.sub pl sb _ _ p2) e2, c.1, c.2, k _ (.bl _)⟩
    · cases e
  · cases e
def D.isNon : D → Bool
  | .non => true
  | _ => false
def gIsN : List D → Option Rs
  | [a, .non] => some (.val (.bl a.isNon))
  | _ => none
def gNotN : List D → Option Rs
  | [a, .non] => some (.val (.bl (!a.isNon)))
  | _ => none
/-! ### parts of sequences -/
theorem RpL.atI {G : Hp} {l : List D} {vs : List V} {i : Int} {d : D} (q : RpL K G l vs) (e : atI l i = some d) : ∃ v, atI vs i = some v ∧ Rp K G d v := by
  unfold L2.atI at e ⊢
  rw [← q.length]
  obtain ⟨j, e1, e2⟩ := Option.bind_eq_some_iff.mp e
  obtain ⟨v, e3, e4⟩ := q.get e2
  exact ⟨v, by rw [e1]; exact e3, e4⟩
theorem RpL.ints {G : Hp} (ns : List Int) : RpL K G (ns.map D.int) (ns.map V.int) := by
  induction ns with
  | nil => exact .nil
  | cons n ns ih => exact .cons (.int n) ih
def D.items : D → Option (List D)
  | .lst l => some l
  | .tup l => some l
  | .scr ns => some (ns.map .int)
  | _ => none
theorem items_rp {G H : Hp} {d : D} {v : V} {l : List D} (sb : Sub G H) (h : Rp K G d v) (e : d.items = some l) : ∃ p xs, v = .ref p ∧ (SqL K H p xs ∨ SqT K H p xs) ∧ RpL K G l xs := by
  cases h with
  | lst a b => cases e; exact ⟨_, _, rfl, Or.inl (Or.inl (Or.inl (sub_ex sb a))), b⟩
  | tup a b => cases e; exact ⟨_, _, rfl, Or.inr (sub_t trivial sb a), b⟩
  | scr a => cases e; exact ⟨_, _, rfl, Or.inl (sub_l trivial sb a), RpL.ints _⟩
  | _ => cases e
def gIx : List D → Option Rs
  | [a, .int i] => a.items.bind fun l => (atI l i).bind fun d => some (.val d)
  | _ => none
theorem dc_ix : DC K (rl2 (rIx K)) gIx := fun G H xs vs z sb pl q e Q k => by
  unfold gIx at e
  split at e
  · obtain ⟨l, e1, e⟩ := Option.bind_eq_some_iff.mp e
    obtain ⟨d, e2, e⟩ := Option.bind_eq_some_iff.mp e
    cases e
    cases q with | cons p q => cases q with | cons p2 q =>
      cases q
      cases p2
      obtain ⟨a, us, rfl, h, r⟩ := items_rp sb p e1
      obtain ⟨v, e3, e4⟩ := r.atI e2
      rcases h with h | h
      · exact Or.inl ⟨a, us, _, v, rfl, rfl, h, e3, k _ e4⟩
      · exact Or.inr (Or.inl ⟨a, us, _, v, rfl, rfl, h, e3, k _ e4⟩)
  · cases e
def gLen : List D → Option Rs
  | [.str x] => if x.length ≤ 1000000 then some (.val (.int x.length)) else none
  | [a] => a.items.bind fun l => some (.val (.int l.length))
  | _ => none
theorem dc_len : DC K (fun xs H Q => ∃ x n, xs = [x] ∧ LenV K x H n ∧ Q (.int n) H) gLen := fun G H xs vs z sb pl q e Q k => by
  unfold gLen at e
  split at e
  · split at e
    · rename_i c
      cases e
      cases q with | cons p q => cases q; cases p; exact ⟨_, _, rfl, ⟨big c, rfl⟩, k _ (.int _)⟩
    · cases e
  · obtain ⟨l, e1, e⟩ := Option.bind_eq_some_iff.mp e
    cases e
    cases q with | cons p q =>
      cases q
      obtain ⟨a, us, rfl, h, r⟩ := items_rp sb p e1
      refine ⟨_, us.length, rfl, ?_, k _ (by rw [r.length]; exact .int _)⟩
      rcases h with h | h
      · exact Or.inl ⟨us, h, rfl⟩
      · exact Or.inr ⟨us, h, rfl⟩
  · cases e
def gMax2 : List D → Option Rs
  | [.int i, .int j] => some (.val (.int (if j > i then j else i)))
  | _ => none
def gMin2 : List D → Option Rs
  | [.int i, .int j] => some (.val (.int (if j < i then j else i)))
  | _ => none
theorem dc_min2 : DC K (fun xs H Q => ∃ i j, xs = [.int i, .int j] ∧ Q (.int (if j < i then j else i)) H) gMin2 := fun G H xs vs z sb pl q e Q k => by
  unfold gMin2 at e
  split at e
  · cases e
    cases q with | cons p q => cases q with | cons p2 q => cases q; cases p; cases p2; exact ⟨_, _, rfl, k _ (.int _)⟩
  · cases e
def gTuple : List D → Option Rs
  | [.lst l] => some (.newT l)
  | [.tup l] => some (.newT l)
  | _ => none
def gList : List D → Option Rs
  | [a] => a.items.bind fun l => some (.newL l)
  | _ => none
end
end Q
set_option Elab.async false
set_option linter.all false
set_option maxRecDepth 100000
set_option maxHeartbeats 2000000
namespace Q
open PySem PySem.Spec PyProof.Rows L2
variable [TbS]
section
variable {K : PySem.W.Frag} {F : Fx} {G H : Hp} {r : List T} {x : List (Option V)}
/-- an own list, changed -/
theorem SI.relist {ts : List T} {ys : List (Option V)} (I : SI K F G H (r ++ ts) (x ++ ys)) (hl : r.length = x.length) {i : Nat} {l : List T} (e : r[i]? = some (.ls l)) :
    ∃ a vs, x[i]? = some (some (.ref a)) ∧ H a = some (.lst vs) ∧ l.length = vs.length ∧ ∃ ge gt : Fp, RtL K G H l (vs.map some) ge ∧ RtL K G H ts ys gt ∧ (∀ b, ge b → ¬ gt b) ∧
      ∀ (l' : List T) (vs' : List V) (ts' : List T) (ys' : List (Option V)) (g' gt' : Fp), RtL K G H l' (vs'.map some) g' → RtL K G H ts' ys' gt' → (∀ b, g' b → ge b ∨ gt b) → (∀ b, gt' b → ge b ∨ gt b) → (∀ b, g' b → ¬ gt' b) → SI K F G (upd H a (.lst vs')) (r.set i (.ls l') ++ ts') (x ++ ys') := by
  obtain ⟨f, hr, hf⟩ := I.own
  obtain ⟨fa, gt, h1, h2, h3, h4, h5⟩ := hr.split hl
  obtain ⟨y, g, h, b1, b2, b3, b4, b5, b6⟩ := h1.at e
  cases b2 with | @ls a vs _ _ ge c1 c2 c3 c4 =>
    refine ⟨a, vs, b1, c2, by have := c3.length; simpa using this, ge, gt, c3, h2, fun b hb z => h5 b (b3 b (c4 b hb).1) z, fun l' vs' ts' ys' g' gt' q1 q2 q3 q4 q5 => ?_⟩
    have na : ∀ b, g' b ∨ gt' b → b ≠ a := fun b hb z => by
      subst z
      have : ge b ∨ gt b := hb.elim (q3 b) (q4 b)
      exact this.elim (fun w => (c4 b w).2 rfl) fun w => h5 b (b3 b c1) w
    have nh : ∀ b, h b → b ≠ a := fun b hb z => by subst z; exact b5 b c1 hb
    have gg : ∀ b, ge b ∨ gt b → ¬ h b := fun b hb z => hb.elim (fun w => b5 b (c4 b w).1 z) fun w => h5 b (b4 b z) w
    have k1 : RtL K G (upd H a (.lst vs')) l' (vs'.map some) g' := q1.frame (Ex.refl G) fun b hb => upd_ne (na b (Or.inl hb))
    have k2 : RtL K G (upd H a (.lst vs')) ts' ys' gt' := q2.frame (Ex.refl G) fun b hb => upd_ne (na b (Or.inr hb))
    have k3 : Rt K G (upd H a (.lst vs')) (.ls l') (some (.ref a)) (fun b => b = a ∨ g' b) := .ls (Or.inl rfl) upd_same k1 fun b hb => ⟨Or.inr hb, na b (Or.inl hb)⟩
    have k4 := b6 G (upd H a (.lst vs')) (.ls l') (some (.ref a)) _ (Ex.refl G) (fun b hb => upd_ne (nh b hb)) k3 (fun b hb z => hb.elim (nh b z) fun w => gg b (q3 b w) z)
    rw [set_same b1] at k4
    have k5 := k2.app k4 fun b hb z => hb.elim (fun w => w.elim (na b (Or.inr z)) fun w => q5 b w z) fun w => gg b (q4 b z) w
    have fin : ∀ b, f b → G b = none ∧ upd H a (.lst vs') b ≠ none ∧ (f b ∨ H b = none) := fun b hb => ⟨(hf b hb).1, by
      by_cases z : b = a
      · subst z; rw [upd_same]; exact Option.some_ne_none _
      · rw [upd_ne z]; exact (hf b hb).2.1, Or.inl hb⟩
    have ff : ∀ b, ge b ∨ gt b → f b := fun b hb => hb.elim (fun w => h3 b (b3 b (c4 b w).1)) (h4 b)
    have fa' : f a := h3 a (b3 a c1)
    refine I.next f hf (Ex.refl G) (fun b o hb => ?_) trivial (fun b o hb z => ?_) (fun b hb => ?_) (fun b o hb => Or.inl hb) k5 (fun b hb => ?_)
    · have : b ≠ a := fun z => by subst z; rw [(hf b fa').1] at hb; cases hb
      rw [upd_ne this]
      exact I.gh b o hb
    · rw [upd_ne fun w => z (by rw [w]; exact fa')]
      exact hb
    · by_cases z : b = a
      · subst z; rw [upd_same]; exact Option.some_ne_none _
      · rw [upd_ne z]; exact hb
    · rcases hb with (z | z) | z
      · rcases z with z | z
        · subst z; exact fin b fa'
        · exact fin b (ff b (q3 b z))
      · exact fin b (h3 b (b4 b z))
      · exact fin b (ff b (q4 b z))
theorem SI.push {t : T} {v : V} (I : SI K F G H (r ++ [t]) (x ++ [some v])) (hl : r.length = x.length) {i : Nat} {l : List T} (e : r[i]? = some (.ls l)) :
    ∃ a vs, x[i]? = some (some (.ref a)) ∧ H a = some (.lst vs) ∧ l.length = vs.length ∧ SI K F G (upd H a (.lst (vs ++ [v]))) (r.set i (.ls (l ++ [t]))) x := by
  obtain ⟨a, vs, e1, e2, e3, ge, gt, c1, c2, c3, fin⟩ := I.relist hl e
  refine ⟨a, vs, e1, e2, e3, ?_⟩
  have := fin (l ++ [t]) (vs ++ [v]) [] [] (fun b => ge b ∨ gt b) (fun _ => False) (by rw [List.map_append]; exact c2.app c1 c3) .nil (fun b hb => hb) (fun b hb => hb.elim) (fun b _ z => z)
  simpa only [List.append_nil] using this
theorem SI.put {t : T} {v : V} (I : SI K F G H (r ++ [t]) (x ++ [some v])) (hl : r.length = x.length) {i : Nat} {l : List T} (e : r[i]? = some (.ls l)) (j : Nat) :
    ∃ a vs, x[i]? = some (some (.ref a)) ∧ H a = some (.lst vs) ∧ l.length = vs.length ∧ SI K F G (upd H a (.lst (vs.set j v))) (r.set i (.ls (l.set j t))) x := by
  obtain ⟨a, vs, e1, e2, e3, ge, gt, c1, c2, c3, fin⟩ := I.relist hl e
  refine ⟨a, vs, e1, e2, e3, ?_⟩
  have key : ∃ g' : Fp, RtL K G H (l.set j t) ((vs.set j v).map some) g' ∧ ∀ b, g' b → ge b ∨ gt b := by
    by_cases c : j < l.length
    · obtain ⟨y, g, h, b1, b2, b3, b4, b5, b6⟩ := c1.at (i := j) (List.getElem?_eq_getElem c)
      cases c2 with | cons a1 _ a3 _ _ =>
        have k := b6 G H t (some v) _ (Ex.refl G) (fun _ _ => rfl) a1 (fun b hb z => c3 b (b4 b z) (a3 b hb))
        rw [← List.map_set] at k
        exact ⟨_, k, fun b hb => hb.elim (fun z => Or.inr (a3 b z)) fun z => Or.inl (b4 b z)⟩
    · rw [List.set_eq_of_length_le (by omega), List.set_eq_of_length_le (by omega)]
      exact ⟨ge, c1, fun b hb => Or.inl hb⟩
  obtain ⟨g', k1, k2⟩ := key
  have := fin (l.set j t) (vs.set j v) [] [] g' (fun _ => False) k1 .nil k2 (fun b hb => hb.elim) (fun b _ z => z)
  simpa only [List.append_nil] using this
theorem SI.popped (I : SI K F G H r x) {i : Nat} {l : List T} {t : T} (e : r[i]? = some (.ls (l ++ [t]))) :
    ∃ a vs v, x[i]? = some (some (.ref a)) ∧ H a = some (.lst (vs ++ [v])) ∧ SI K F G (upd H a (.lst vs)) (r.set i (.ls l) ++ [t]) (x ++ [some v]) := by
  obtain ⟨a, vs, e1, e2, e3, ge, gt, c1, c2, c3, fin⟩ := SI.relist (ts := []) (ys := []) (by simpa only [List.append_nil] using I) I.len e
  have hv : vs ≠ [] := fun z => by subst z; simp at e3
  obtain ⟨us, v, rfl⟩ : ∃ us v, vs = us ++ [v] := ⟨vs.dropLast, vs.getLast hv, (List.dropLast_concat_getLast hv).symm⟩
  rw [List.map_append] at c1
  obtain ⟨g1, g2, k1, k2, k3, k4, k5⟩ := c1.split (by simp at e3 ⊢; exact e3)
  exact ⟨a, us, v, e1, e2, fin l us [t] [some v] g1 g2 k1 k2 (fun b hb => Or.inl (k3 b hb)) (fun b hb => Or.inl (k4 b hb)) k5⟩
theorem SI.listAt (I : SI K F G H r x) {i : Nat} {l : List T} (e : r[i]? = some (.ls l)) : ∃ a vs f, x[i]? = some (some (.ref a)) ∧ H a = some (.lst vs) ∧ RtL K G H l (vs.map some) f := by
  obtain ⟨a, vs, e1, e2, e3, ge, gt, c1, _⟩ := SI.relist (ts := []) (ys := []) (by simpa only [List.append_nil] using I) I.len e
  exact ⟨a, vs, ge, e1, e2, c1⟩
end
section
variable {K : PySem.W.Frag}
theorem get_left {r : Env} {tm : List T} {i : Nat} {t : T} (e : r[i]? = some t) : (r ++ tm)[i]? = some t := by
  rw [List.getElem?_append_left (List.getElem?_eq_some_iff.mp e).1]
  exact e
theorem set_left {r : Env} {tm : List T} {i : Nat} {t u : T} (e : r[i]? = some t) : (r ++ tm).set i u = r.set i u ++ tm := List.set_append_left _ _ (List.getElem?_eq_some_iff.mp e).1
theorem of_left {r : Env} {s : L2.St} {us : List (Option V)} {i : Nat} {t : T} {y : Option V} (hl : r.length = s.length) (e : r[i]? = some t) (h : (s ++ us)[i]? = some y) : s[i]? = some y := by
  rw [List.getElem?_append_left (by have := (List.getElem?_eq_some_iff.mp e).1; omega)] at h
  exact h
def isLs : Option T → Bool
  | some (.ls _) => true
  | _ => false
theorem isLs_of {o : Option T} (h : isLs o = true) : ∃ l, o = some (.ls l) := by
  cases o with
  | none => cases h
  | some t => cases t with
    | ls l => exact ⟨l, rfl⟩
    | _ => cases h
def isFz : Option T → Bool
  | some (.fz _) => true
  | _ => false
theorem isFz_of {o : Option T} (h : isFz o = true) : ∃ l, o = some (.fz l) := by
  cases o with
  | none => cases h
  | some t => cases t with
    | fz l => exact ⟨l, rfl⟩
    | _ => cases h
/-- name.append(e) -/
def dAppend (i : Nat) (f : MD) : ED := fun r => if isLs r[i]? = true then (f r).bind fun p => match p.2[i]? with
  | some (.ls l) => if l.length < 1000000 then some (.sh .non, p.2.set i (.ls (l ++ [p.1]))) else none
  | _ => none
  else none
theorem de_append {i : Nat} {te : TE} {f : MD} (h : DM K te f) : DE K (tBM K "list" rAppend (tVar i) (tCons te tNil)) (dAppend i f) := fun F G H r s tm us w r' I hl e Q q => by
  unfold dAppend at e
  split at e
  case isFalse => cases e
  rename_i hls
  obtain ⟨⟨t, r1⟩, e1, e⟩ := Option.bind_eq_some_iff.mp e
  dsimp only at e
  split at e
  · rename_i l hr
    split at e
    · rename_i c
      cases e
      obtain ⟨l0, hr0⟩ := isLs_of hls
      obtain ⟨a, vs0, f0, z1, z2, _⟩ := I.listAt (get_left hr0)
      have z1' := of_left hl hr0 z1
      refine ⟨.ref a, z1', Or.inl ⟨rfl, _, Or.inl (Or.inl z2)⟩, ?_⟩
      refine h F G H r s tm us t r1 I hl e1 _ fun v G1 H1 x1 I1 l1 => ?_
      simp only [← List.append_assoc] at I1
      have hl2 : (r1 ++ tm).length = (s ++ us).length := by have := I1.len; simp at this ⊢; omega
      obtain ⟨b, vs, y1, y2, y3, J⟩ := I1.push hl2 (get_left hr)
      have y1' := of_left l1 hr y1
      rw [z1'] at y1'
      cases y1'
      rw [set_left hr] at J
      exact ⟨a, vs, v, rfl, rfl, y2, bigl (y3 ▸ c), q _ G1 _ x1 (by simpa only [W.tm, W.vl, List.append_nil] using J) (by rw [List.length_set]; exact l1) .non⟩
    · cases e
  · cases e
/-- name.pop() -/
def dPop (i : Nat) : ED := fun r => match r[i]? with
  | some (.ls l) => (l.getLast?).bind fun t => some (resW t, r.set i (.ls l.dropLast))
  | _ => none
theorem res_in {F : Fx} {G H : Hp} {r : Env} {s : L2.St} {tm : List T} {us : List (Option V)} {t : T} {v : V} (I : SI K F G H (r ++ (tm ++ [t])) (s ++ (us ++ [some v]))) (hl : (r ++ tm).length = (s ++ us).length) : SI K F G H (r ++ (tm ++ (resW t).tm)) (s ++ (us ++ (resW t).vl v)) ∧ WV K G s (resW t) v := by
  cases t with
  | fz d =>
    have I' : SI K F G H ((r ++ tm) ++ [.fz d]) ((s ++ us) ++ [some v]) := by simpa only [List.append_assoc] using I
    obtain ⟨f, hr, _⟩ := I'.own
    obtain ⟨_, _, _, k2, _⟩ := hr.split hl
    refine ⟨by simpa only [resW, W.tm, W.vl, List.append_nil] using I'.drop hl, ?_⟩
    cases k2 with | cons a1 _ _ _ _ => cases a1 with | fz q => exact q
  | un => exact ⟨I, trivial⟩
  | ls l => exact ⟨I, trivial⟩
  | tp l => exact ⟨I, trivial⟩
  | dk ks l => exact ⟨I, trivial⟩
  | dt ks l => exact ⟨I, trivial⟩
  | ob C ns l => exact ⟨I, trivial⟩
  | st ks => exact ⟨I, trivial⟩
  | dn ks l => exact ⟨I, trivial⟩
theorem de_pop {i : Nat} : DE K (tBM0 K "list" rPop (tVar i)) (dPop i) := fun F G H r s tm us w r' I hl e Q q => by
  unfold dPop at e
  split at e
  · rename_i l hr
    obtain ⟨t, e1, e⟩ := Option.bind_eq_some_iff.mp e
    cases e
    obtain ⟨l0, rfl⟩ : ∃ l0, l = l0 ++ [t] := by
      have hn : l ≠ [] := fun z => by subst z; cases e1
      refine ⟨l.dropLast, ?_⟩
      rw [List.getLast?_eq_some_getLast hn] at e1
      cases e1
      exact (List.dropLast_concat_getLast hn).symm
    obtain ⟨a, vs, v, z1, z2, J⟩ := I.popped (get_left hr)
    rw [set_left hr, List.append_assoc, List.append_assoc] at J
    rw [List.dropLast_concat] at *
    have lr : (r.set i (.ls l0) ++ tm).length = (s ++ us).length := by have := I.len; simp at this ⊢; omega
    obtain ⟨J1, J2⟩ := res_in J lr
    refine ⟨.ref a, of_left hl hr z1, Or.inl ⟨rfl, _, Or.inl (Or.inl z2)⟩, a, vs ++ [v], v, rfl, rfl, z2, by simp, ?_⟩
    rw [List.dropLast_concat]
    exact q v G _ (Ex.refl G) J1 (by rw [List.length_set]; exact hl) J2
  · cases e
/-- name[e], an own list's shared item -/
def dIxO (i : Nat) (f : FD) : ED := fun r => if isLs r[i]? = true then (f r).bind fun p => match p.1, p.2[i]? with
  | .int k, some (.ls l) => (atI l k).bind fun t => match t with
    | .fz d => some (.sh d, p.2)
    | _ => none
  | _, _ => none
  else none
theorem RtL.get {G H : Hp} {l : List T} {ys : List (Option V)} {f : Fp} {j : Nat} {t : T} (h : RtL K G H l ys f) (e : l[j]? = some t) : ∃ y g, ys[j]? = some y ∧ Rt K G H t y g := by
  obtain ⟨y, g, _, b1, b2, _⟩ := h.at e
  exact ⟨y, g, b1, b2⟩
theorem de_ixO {i : Nat} {ti : TE} {f : FD} (h : DF K ti f) : DE K (tOp (rIx K) (tVar i) ti) (dIxO i f) := fun F G H r s tm us w r' I hl e Q q => by
  unfold dIxO at e
  split at e
  case isFalse => cases e
  rename_i hls
  obtain ⟨⟨d, r1⟩, e1, e⟩ := Option.bind_eq_some_iff.mp e
  dsimp only at e
  split at e
  · rename_i k l hr
    obtain ⟨t, e2, e⟩ := Option.bind_eq_some_iff.mp e
    split at e
    · rename_i dd
      cases e
      obtain ⟨l0, hr0⟩ := isLs_of hls
      obtain ⟨a, vs0, f0, z1, z2, _⟩ := I.listAt (get_left hr0)
      refine ⟨.ref a, of_left hl hr0 z1, ?_⟩
      refine h F G H r s tm us _ _ I hl e1 _ fun v G1 H1 x1 I1 l1 hd => ?_
      cases hd
      obtain ⟨b, vs, f1, y1, y2, y3⟩ := I1.listAt (get_left hr)
      have y1' := of_left l1 hr y1
      rw [of_left hl hr0 z1] at y1'
      cases y1'
      unfold L2.atI at e2
      obtain ⟨j, e3, e4⟩ := Option.bind_eq_some_iff.mp e2
      obtain ⟨y, g, e5, e6⟩ := y3.get e4
      cases e6 with | @fz _ v _ q1 =>
        have hlen := y3.length
        rw [List.length_map] at hlen
        rw [List.getElem?_map] at e5
        obtain ⟨v', e7, e8⟩ := Option.map_eq_some_iff.mp e5
        cases e8
        refine Or.inl ⟨a, vs, _, v, rfl, rfl, Or.inl (Or.inl y2), ?_, q _ G1 H1 x1 (by simpa only [W.tm, W.vl, List.append_nil] using I1) l1 q1⟩
        unfold L2.atI
        rw [← hlen, e3]
        exact e7
    · cases e
  · cases e
/-- name[e] = v -/
def gdIx (i : Nat) (f : FD) : GD := fun r t => if isLs r[i]? = true then (f r).bind fun p => match p.1, p.2[i]? with
  | .int k, some (.ls l) => (ixN l.length k).bind fun j => some (p.2.set i (.ls (l.set j t)))
  | _, _ => none
  else none
theorem dg_ix {A : Nat → Bool} {i : Nat} {ti : TE} {f : FD} (h : DF K ti f) : DG K A (L2.gSub (tVar i) ti rSetL) (gdIx i f) := fun F P G H r s t v tm us r' a I hl p e Q q => by
  unfold gdIx at e
  split at e
  case isFalse => cases e
  rename_i hls
  obtain ⟨⟨d, r1⟩, e1, e⟩ := Option.bind_eq_some_iff.mp e
  dsimp only at e
  split at e
  · rename_i k l hr
    obtain ⟨j, e2, e⟩ := Option.bind_eq_some_iff.mp e
    cases e
    obtain ⟨l0, hr0⟩ := isLs_of hls
    obtain ⟨b, vs0, f0, z1, z2, _⟩ := I.listAt (get_left hr0)
    refine ⟨.ref b, of_left hl hr0 z1, ?_⟩
    refine h F G H r s (t :: tm) (some v :: us) _ r1 I hl e1 _ fun v1 G1 H1 x1 I1 l1 hd => ?_
    cases hd
    have tl : tm.length = us.length := by have := I1.len; simp at this; omega
    have I2 : SI K F G1 H1 ((r1 ++ tm) ++ [t]) ((s ++ us) ++ [some v]) := by
      obtain ⟨f, hr1, hf⟩ := I1.own
      obtain ⟨g1, g2, k1, k2, k3, k4, k5⟩ := hr1.split l1
      cases k2 with | @cons _ _ _ _ _ gt ht a1 a2 a3 a4 a5 =>
        have m1 := a2.app k1 fun b hb z => k5 b hb (a4 b z)
        have m2 : RtL K G1 H1 [t] [some v] gt := .cons a1 (h := fun _ => False) .nil (fun b hb => hb) (fun b hb => hb.elim) (fun b _ z => z)
        exact I1.same hf (m2.app m1 fun b hb z => hb.elim (fun w => k5 b w (a3 b z)) fun w => a5 b z w) fun b hb => hb.elim (fun w => w.elim (k3 b) fun w => k4 b (a4 b w)) fun w => k4 b (a3 b w)
    obtain ⟨c, vs, y1, y2, y3, J⟩ := I2.put (by simp; omega) (get_left hr) j
    have y1' := of_left l1 hr y1
    rw [of_left hl hr0 z1] at y1'
    cases y1'
    rw [set_left hr] at J
    exact ⟨b, vs, _, j, rfl, rfl, y2, by rw [← y3]; exact e2, q s G1 _ x1 J (by rw [List.length_set]; exact l1) rfl p⟩
  · cases e
/-! ### slices -/
abbrev PD := Env → Option (Option Int × Env)
def DP (K : PySem.W.Frag) (tp : TO) (f : PD) : Prop := ∀ F G H r s tm us o r', SI K F G H (r ++ tm) (s ++ us) → r.length = s.length → f r = some (o, r') → ∀ Q : Option Int → Hp → Prop, (∀ G' H', Ex G G' → SI K F G' H' (r' ++ tm) (s ++ us) → r'.length = s.length → Q o H') → tp s H Q
def pNo : PD := fun r => some (none, r)
def pAt (f : FD) : PD := fun r => (f r).bind fun p => match p.1 with
  | .int i => some (some i, p.2)
  | _ => none
theorem dp_no : DP K tNoPart pNo := fun F G H r s tm us o r' I hl e Q q => by
  cases e
  exact q G H (Ex.refl G) I hl
theorem dp_at {te : TE} {f : FD} (h : DF K te f) : DP K (tPart te) (pAt f) := fun F G H r s tm us o r' I hl e Q q => by
  obtain ⟨⟨d, r1⟩, e1, e⟩ := Option.bind_eq_some_iff.mp e
  dsimp only at e
  split at e
  · cases e
    refine h F G H r s tm us _ _ I hl e1 _ fun v G1 H1 x1 I1 l1 hd => ?_
    cases hd
    exact ⟨_, rfl, q G1 H1 x1 I1 l1⟩
  · cases e
def cutD (l : List D) (lo hi : Option Int) : List D := (l.drop (HT.sIx l.length 0 lo)).take (HT.sIx l.length l.length hi - HT.sIx l.length 0 lo)
theorem RpL.cut {G : Hp} {l : List D} {vs : List V} (q : RpL K G l vs) (lo hi : Option Int) : RpL K G (cutD l lo hi) (cutV vs lo hi) := by
  unfold cutD cutV
  rw [q.length]
  exact (q.drop _).take _
def DSl (K : PySem.W.Frag) (rl : V → Option Int → Option Int → Hp → VK → Prop) (g : D → Option Int → Option Int → Option Rs) : Prop := ∀ G H x v lo hi z, Sub G H → Rp K G x v → g x lo hi = some z → ∀ Q : VK, RsOk K G H Q z → rl v lo hi H Q
def dSl (g : D → Option Int → Option Int → Option Rs) (f : FD) (lo hi : PD) : ED := fun r => (f r).bind fun p => (lo p.2).bind fun a => (hi a.2).bind fun b => (g p.1 a.1 b.1).bind fun z => some (z.w, b.2)
theorem de_sl {rl : V → Option Int → Option Int → Hp → VK → Prop} {g : D → Option Int → Option Int → Option Rs} {te : TE} {tl th : TO} {f : FD} {lo hi : PD} (hg : DSl K rl g) (h : DF K te f) (h1 : DP K tl lo) (h2 : DP K th hi) : DE K (tSl rl te tl th) (dSl g f lo hi) := fun F G H r s tm us w r' I hl e Q q => by
  obtain ⟨⟨d, r1⟩, e1, e⟩ := Option.bind_eq_some_iff.mp e
  obtain ⟨⟨a, r2⟩, e2, e⟩ := Option.bind_eq_some_iff.mp e
  obtain ⟨⟨b, r3⟩, e3, e⟩ := Option.bind_eq_some_iff.mp e
  obtain ⟨z, e4, e⟩ := Option.bind_eq_some_iff.mp e
  cases e
  refine h F G H r s tm us d r1 I hl e1 _ fun v G1 H1 x1 I1 l1 hd => h1 F G1 H1 r1 s tm us a r2 I1 l1 e2 _ fun G2 H2 x2 I2 l2 => h2 F G2 H2 r2 s tm us b _ I2 l2 e3 _ fun G3 H3 x3 I3 l3 => ?_
  exact hg G3 H3 d v a b z I3.gh (hd.mono (x2.trans x3)) e4 Q (rs_ok I3 l3 fun v G' H' x4 I4 l4 hw => q v G' H' (((x1.trans x2).trans x3).trans x4) I4 l4 hw)
def gSlT : D → Option Int → Option Int → Option Rs
  | .tup l, lo, hi => some (.newT (cutD l lo hi))
  | _, _, _ => none
theorem sl_all {n : Nat} {l : List D} (hn : l.length = n) {lo hi : Option Int} (h1 : HT.sIx n 0 lo = 0) (h2 : HT.sIx n n hi = n) : cutD l lo hi = l := by
  unfold cutD
  rw [hn, h1, h2, ← hn]
  simp
theorem dsl_tup : DSl K (rSlA K) gSlT := fun G H x v lo hi z sb q e Q k => by
  unfold gSlT at e
  split at e
  · cases e
    cases q with | tup a b =>
      refine ⟨_, _, rfl, sub_t trivial sb a, fun z => k.1 _ ?_, fun _ p hp => k.2 p _ hp (b.cut lo hi)⟩
      rw [sl_all b.length z.1 z.2]
      exact .tup a b
  · cases e
def gSlL : D → Option Int → Option Int → Option Rs
  | .lst l, lo, hi => some (.newL (cutD l lo hi))
  | _, _, _ => none
/-! ### a < b < c -/
def dChain (g g' : List D → Option Rs) (fa fb fc : FD) : ED := fun r => (fa r).bind fun p => (fb p.2).bind fun p2 => (g [p.1, p2.1]).bind fun z => match z with
  | .val (.bl true) => (fc p2.2).bind fun p3 => (g' [p2.1, p3.1]).bind fun z' => some (z'.w, p3.2)
  | .val (.bl false) => some (.sh (.bl false), p2.2)
  | _ => none
theorem de_chain {ta tb tc : TE} {fa fb fc : FD} {rl rl' : R2} {g g' : List D → Option Rs} (ha : DF K ta fa) (hb : DF K tb fb) (hc : DF K tc fc) (h1 : DC K (rl2 rl) g) (h2 : DC K (rl2 rl') g') : DE K (tChain rl rl' ta tb tc) (dChain g g' fa fb fc) := fun F G H r s tm us w r' I hl e Q q => by
  obtain ⟨⟨d1, r1⟩, e1, e⟩ := Option.bind_eq_some_iff.mp e
  obtain ⟨⟨d2, r2⟩, e2, e⟩ := Option.bind_eq_some_iff.mp e
  obtain ⟨z, e3, e⟩ := Option.bind_eq_some_iff.mp e
  refine ha F G H r s tm us d1 r1 I hl e1 _ fun v G1 H1 x1 I1 l1 q1 => hb F G1 H1 r1 s tm us d2 r2 I1 l1 e2 _ fun u G2 H2 x2 I2 l2 q2 => ?_
  refine h1 G2 H2 [d1, d2] [v, u] z I2.gh I2.pl (.cons (q1.mono x2) (.cons q2 .nil)) e3 _ ?_
  dsimp only at e
  split at e
  · obtain ⟨⟨d3, r3⟩, e4, e⟩ := Option.bind_eq_some_iff.mp e
    obtain ⟨z', e5, e⟩ := Option.bind_eq_some_iff.mp e
    cases e
    intro w0 hw0
    cases hw0
    refine ⟨true, rfl, ?_⟩
    rw [if_pos rfl]
    exact hc F G2 H2 r2 s tm us d3 _ I2 l2 e4 _ fun w3 G3 H3 x3 I3 l3 q3 => h2 G3 H3 [d2, d3] [u, w3] z' I3.gh I3.pl (.cons (q2.mono x3) (.cons q3 .nil)) e5 Q (rs_ok I3 l3 fun v G' H' x4 I4 l4 hw => q v G' H' (((x1.trans x2).trans x3).trans x4) I4 l4 hw)
  · cases e
    intro w0 hw0
    cases hw0
    refine ⟨false, rfl, ?_⟩
    rw [if_neg (by decide)]
    exact q _ G2 H2 (x1.trans x2) (by simpa only [W.tm, W.vl, List.append_nil] using I2) l2 (.bl false)
  · cases e
/-! ### name op= e -/
def dAug (i : Nat) (g : List D → Option Rs) (f : FD) : SD := fun r => if isFz r[i]? = true then (f r).bind fun p => match p.2[i]? with
  | some (.fz d) => (g [d, p.1]).bind fun z => match z with
    | .val d' => some (.nx (p.2.set i (.fz d')))
    | _ => none
  | _ => none
  else none
theorem ds_aug {A : Nat → Bool} {X : WX} {i : Nat} {g : List D → Option Rs} {te : TE} {rl : R2} {f : FD} (hA : A i = true) (h : DF K te f) (hg : DC K (rl2 rl) g) : DS K A X (tAug i te rl) (dAug i g f) := fun F P G H r s o a I p e E q => by
  unfold dAug at e
  split at e
  case isFalse => cases e
  rename_i hfz
  obtain ⟨⟨d1, r1⟩, e1, e⟩ := Option.bind_eq_some_iff.mp e
  dsimp only at e
  split at e
  · rename_i d hr
    obtain ⟨z, e2, e⟩ := Option.bind_eq_some_iff.mp e
    cases z with
    | newT l => cases e
    | newL l => cases e
    | val d' =>
      cases e
      obtain ⟨d0, hr0⟩ := isFz_of hfz
      obtain ⟨f0, k0, _⟩ := I.own
      obtain ⟨y, _, k1, k2⟩ := k0.get hr0
      cases k2 with | @fz _ v _ _ =>
        refine ⟨v, k1, h F G H r s [] [] d1 r1 (by simpa only [List.append_nil] using I) I.len e1 _ fun u G1 H1 x1 I1 l1 q1 => ?_⟩
        rw [List.append_nil, List.append_nil] at I1
        obtain ⟨f1, k3, _⟩ := I1.own
        obtain ⟨y, gg, k4, k5⟩ := k3.get hr
        rw [k1] at k4
        cases k4
        cases k5 with | fz qd =>
          refine hg G1 H1 [d, d1] [v, u] _ I1.gh I1.pl (.cons qd (.cons q1 .nil)) e2 _ fun w hw => ?_
          have J := SI.into (tm := []) (us := []) (t := .fz d') (y := some w) (by simpa using I1.fzs (l := [d']) (vs := [w]) (.cons hw .nil)) I1.len i
          exact q _ G1 H1 x1 (by simpa only [List.append_nil] using J) (p.set (a i hA))
  · cases e
end
end Q
set_option Elab.async false
set_option linter.all false
set_option maxRecDepth 100000
set_option maxHeartbeats 2000000
namespace Q
open PySem PySem.Spec PyProof.Rows L2
variable [TbS]
section
variable {K : PySem.W.Frag}
/-! ### walks over two things -/
def zipD (a b : List D) : List D := List.zipWith (fun x y => .tup [x, y]) a b
def enumD (a : List D) : List D := a.zipIdx.map fun p => .tup [.int (p.2 : Nat), p.1]
def dEnum (f : FDs) : ID := fun r => (f r).bind fun p => match p.1 with
  | [.lst a] => some (enumD a, p.2)
  | _ => none
/-! ### the slots of a comprehension -/
def wipeT (r : Env) : List Nat → Env
  | [] => r
  | v :: vs => (wipeT r vs).set v .un
theorem wipeT_len (r : Env) : ∀ vs : List Nat, (wipeT r vs).length = r.length
  | [] => rfl
  | v :: vs => by unfold wipeT; rw [List.length_set, wipeT_len r vs]
theorem SI.reset {F : Fx} {G H : Hp} {r : Env} {s : L2.St} {tm : List T} {us : List (Option V)} (I : SI K F G H (r ++ tm) (s ++ us)) (hl : r.length = s.length) {t : T} {y : Option V} (h : Rt K G H t y (fun _ => False)) (i : Nat) : SI K F G H (r.set i t ++ tm) (s.set i y ++ us) := by
  refine SI.into ?_ hl i
  obtain ⟨f, hr, hf⟩ := I.own
  obtain ⟨g1, g2, k1, k2, k3, k4, k5⟩ := hr.split hl
  have m : RtL K G H (t :: tm) (y :: us) g2 := .cons (g := fun _ => False) h k2 (fun b hb => hb.elim) (fun b hb => hb) (fun b hb => hb.elim)
  exact I.same hf (m.app k1 k5) fun b hb => hb.elim (k3 b) (k4 b)
theorem SI.wiped {F : Fx} {G H : Hp} {r : Env} {s : L2.St} {tm : List T} {us : List (Option V)} (I : SI K F G H (r ++ tm) (s ++ us)) (hl : r.length = s.length) : ∀ vs : List Nat, SI K F G H (wipeT r vs ++ tm) (wipe s vs ++ us)
  | [] => I
  | v :: vs => (SI.wiped I hl vs).reset (by rw [wipeT_len, wipe_length]; exact hl) .un v
theorem wipe_in {s : L2.St} {i : Nat} : ∀ {vs : List Nat}, i ∈ vs → i < s.length → (wipe s vs)[i]? = some none
  | v :: vs, h, hi => by
    unfold wipe
    by_cases c : v = i
    · subst c
      rw [List.getElem?_set_self (by rw [wipe_length]; exact hi)]
    · rw [List.getElem?_set_ne c]
      exact wipe_in ((List.mem_cons.mp h).resolve_left fun z => c z.symm) hi
theorem wipe_same {s s' : L2.St} {vs : List Nat} (hl : s.length = s'.length) (h : ∀ i : Nat, i ∉ vs → s[i]? = s'[i]?) : wipe s vs = wipe s' vs := by
  apply List.ext_getElem?
  intro i
  by_cases c : i ∈ vs
  · by_cases hi : i < s.length
    · rw [wipe_in c hi, wipe_in c (by omega)]
    · rw [List.getElem?_eq_none (by rw [wipe_length]; omega), List.getElem?_eq_none (by rw [wipe_length]; omega)]
  · rw [wipe_out c, wipe_out c]
    exact h i c
theorem of_wipe {s s' : L2.St} {vs : List Nat} (h : wipe s vs = wipe s' vs) {i : Nat} (c : i ∉ vs) : s[i]? = s'[i]? := by
  rw [← wipe_out (vs := vs) c, h, wipe_out c]
theorem wipe_idem {s : L2.St} {vs : List Nat} : wipe (wipe s vs) vs = wipe s vs := wipe_same (by rw [wipe_length]) fun i c => wipe_out c
theorem wipe_len {s s' : L2.St} {vs : List Nat} (h : wipe s vs = wipe s' vs) : s.length = s'.length := by
  rw [← wipe_length s vs, h, wipe_length]
def slotP (r0 : Env) (i : Nat) : T := match r0[i]? with
  | some t => keepP t
  | none => .un
def restore (r0 : Env) : List Nat → Env → Env
  | [], r => r
  | i :: own, r => (restore r0 own r).set i (slotP r0 i)
def resV (s : L2.St) : List Nat → L2.St → L2.St
  | [], x => x
  | i :: own, x => (resV s own x).set i ((s[i]?).getD none)
theorem restore_len {r0 : Env} : ∀ {own : List Nat} {r : Env}, (restore r0 own r).length = r.length
  | [], r => rfl
  | i :: own, r => by unfold restore; rw [List.length_set]; exact restore_len
theorem resV_len {s : L2.St} : ∀ {own : List Nat} {x : L2.St}, (resV s own x).length = x.length
  | [], r => rfl
  | i :: own, r => by unfold resV; rw [List.length_set]; exact resV_len
theorem resV_get {s : L2.St} : ∀ {own : List Nat} {x : L2.St}, x.length = s.length → (∀ i : Nat, i ∉ own → x[i]? = s[i]?) → resV s own x = s
  | [], x, hl, h => List.ext_getElem? fun i => h i (by simp)
  | j :: own, x, hl, h => by
    unfold resV
    apply List.ext_getElem?
    intro i
    by_cases c : j = i
    · subst c
      by_cases hi : j < s.length
      · rw [List.getElem?_set_self (by rw [resV_len]; omega), List.getElem?_eq_getElem hi]
        rfl
      · rw [List.getElem?_eq_none (by rw [List.length_set, resV_len]; omega), List.getElem?_eq_none (by omega)]
    · rw [List.getElem?_set_ne c]
      have : ∀ (ow : List Nat) (y : L2.St), (i ∈ ow → i < y.length → (resV s ow y)[i]? = some ((s[i]?).getD none)) ∧ (i ∉ ow → (resV s ow y)[i]? = y[i]?) := by
        intro ow
        induction ow with
        | nil => intro y; exact ⟨fun z => by simp at z, fun _ => rfl⟩
        | cons k ow ih =>
          intro y
          unfold resV
          by_cases ck : k = i
          · subst ck
            exact ⟨fun _ hi => by rw [List.getElem?_set_self (by rw [resV_len]; exact hi)], fun z => absurd List.mem_cons_self z⟩
          · rw [List.getElem?_set_ne ck]
            exact ⟨fun z hi => (ih y).1 ((List.mem_cons.mp z).resolve_left fun w => ck w.symm) hi, fun z => (ih y).2 fun w => z (List.mem_cons_of_mem _ w)⟩
      by_cases ci : i ∈ own
      · by_cases hi : i < s.length
        · rw [(this own x).1 ci (by omega), List.getElem?_eq_getElem hi]
          rfl
        · rw [List.getElem?_eq_none (by rw [resV_len]; omega), List.getElem?_eq_none (by omega)]
      · rw [(this own x).2 ci]
        exact h i fun z => (List.mem_cons.mp z).elim (fun w => c w.symm) ci
theorem slotP_rt {G G' H H' : Hp} {r0 : Env} {s : L2.St} {f : Fp} (h : RtL K G H r0 s f) (x : Ex G G') (i : Nat) : Rt K G' H' (slotP r0 i) ((s[i]?).getD none) (fun _ => False) := by
  unfold slotP
  cases e : r0[i]? with
  | none => exact .un
  | some t =>
    obtain ⟨y, g, k1, k2⟩ := h.get e
    rw [k1]
    exact keepP_rt k2 x
theorem SI.restored {F : Fx} {G H : Hp} {r : Env} {x : L2.St} {tm : List T} {us : List (Option V)} {G0 H0 : Hp} {r0 : Env} {s : L2.St} {f : Fp} (I : SI K F G H (r ++ tm) (x ++ us)) (hl : r.length = x.length) (h : RtL K G0 H0 r0 s f) (xg : Ex G0 G) : ∀ own : List Nat, SI K F G H (restore r0 own r ++ tm) (resV s own x ++ us)
  | [] => I
  | i :: own => (SI.restored I hl h xg own).reset (by rw [restore_len, resV_len]; exact hl) (slotP_rt h xg i) i
/-! ### comprehensions -/
def dYes : BD := fun r => some (true, r)
def compD (h : GD) (b : BD) (e : MD) (own : List Nat) : List D → Env → List T → Option (List T × Env)
  | [], r, acc => some (acc, r)
  | d :: l, r, acc => (h (wipeT r own) (.fz d)).bind fun r1 => (b r1).bind fun p => if p.1 = true then (e p.2).bind fun q => if acc.length < 1000000 then compD h b e own l q.2 (acc ++ [q.1]) else none else compD h b e own l p.2 acc
theorem comp_core {F : Fx} {J : It} {l : List D} {G0 G H : Hp} {g : TG} {tt : TT} {te : TE} {h : GD} {b : BD} {e : MD} {own : List Nat} {r r' : Env} {acc acc' : List T} {tm : List T} {us : List (Option V)} {Dn : Addr} {σ σ0 : L2.St} {Nx : Hp → Prop}
    (hJ : WalkD K J l G0) (hg : DG K (fun i => own.contains i) g h) (hb : DT K tt b) (he : DM K te e) (e0 : compD h b e own l r acc = some (acc', r')) (I : SI K F G H (r ++ (tm ++ [.ls acc])) (σ0 ++ (us ++ [some (.ref Dn)]))) (x0 : Ex G0 G) (hw0 : wipe σ0 own = wipe σ own) (hl : r.length = σ0.length)
    (done : ∀ G' H' σ', Ex G G' → SI K F G' H' (r' ++ (tm ++ [.ls acc'])) (σ' ++ (us ++ [some (.ref Dn)])) → r'.length = σ'.length → wipe σ' own = wipe σ own → Nx H') :
    ∃ W : Nat → Nat → Hp → Prop, (∃ m, W 0 m H) ∧ ∀ i m H, W i m H → (J.stop i H ∧ Nx H) ∨ (J.go i H ∧ ∃ N : Hp → Prop, (∀ H', N H' → ∃ m', m' < m ∧ W (i + 1) m' H') ∧ ∀ x H', J.yld i H x H' → g x (wipe σ own) H' fun σ2 H2 => wipe σ2 own = wipe σ own ∧ tt σ2 H2 fun b H3 =>
      if b = true then te σ2 H3 fun y H4 => ∃ ac, H4 Dn = some (.lst ac) ∧ ac.length < sizeLine ∧ N (upd H4 Dn (.lst (ac ++ [y]))) else N H3) := by
  refine ⟨fun i m H' => i ≤ l.length ∧ m = l.length - i ∧ ∃ G1 r1 ac σ1, Ex G G1 ∧ SI K F G1 H' (r1 ++ (tm ++ [.ls ac])) (σ1 ++ (us ++ [some (.ref Dn)])) ∧ r1.length = σ1.length ∧ wipe σ1 own = wipe σ own ∧ compD h b e own (l.drop i) r1 ac = some (acc', r'), ⟨l.length, Nat.zero_le _, rfl, G, r, acc, σ0, Ex.refl G, I, hl, hw0, e0⟩, ?_⟩
  rintro i m H1 ⟨hi, rfl, G1, r1, ac, σ1, x1, I1, l1, w1, e1⟩
  by_cases c : i < l.length
  · have hd : l[i]? = some l[i] := List.getElem?_eq_getElem c
    obtain ⟨go, yl⟩ := (hJ F G1 H1 _ _ (x0.trans x1) I1 i).1 _ hd
    rw [List.drop_eq_getElem_cons c] at e1
    obtain ⟨r2, e2, e3⟩ := Option.bind_eq_some_iff.mp (show (h (wipeT r1 own) (.fz l[i])).bind _ = _ from e1)
    obtain ⟨⟨k, r3⟩, e4, e5⟩ := Option.bind_eq_some_iff.mp e3
    refine Or.inr ⟨go, fun H3 => ∃ G3 r3 ac3 σ3, Ex G G3 ∧ SI K F G3 H3 (r3 ++ (tm ++ [.ls ac3])) (σ3 ++ (us ++ [some (.ref Dn)])) ∧ r3.length = σ3.length ∧ wipe σ3 own = wipe σ own ∧ compD h b e own (l.drop (i + 1)) r3 ac3 = some (acc', r'), fun H3 z => ⟨l.length - (i + 1), by omega, c, rfl, z⟩, fun x H2 y => ?_⟩
    obtain ⟨G2, x2, I2, q2⟩ := yl x H2 y
    have J2 := I2.wiped l1 own
    rw [w1] at J2
    have lw : (wipeT r1 own).length = (wipe σ own).length := by rw [wipeT_len, wipe_length, l1, wipe_len w1]
    have J3 : SI K F G2 H2 (wipeT r1 own ++ (.fz l[i]) :: (tm ++ [.ls ac])) (wipe σ own ++ some x :: (us ++ [some (.ref Dn)])) := by
      obtain ⟨f, hr, hf⟩ := J2.own
      obtain ⟨g1, g2, k1, k2, k3, k4, k5⟩ := hr.split lw
      have m : RtL K G2 H2 (.fz l[i] :: (tm ++ [.ls ac])) (some x :: (us ++ [some (.ref Dn)])) g2 := .cons (g := fun _ => False) (.fz q2) k2 (fun b hb => hb.elim) (fun b hb => hb) (fun b hb => hb.elim)
      exact J2.same hf (m.app k1 k5) fun b hb => hb.elim (k3 b) (k4 b)
    refine hg F (fun j => if own.contains j then none else (wipe σ own)[j]?) G2 H2 _ _ (.fz l[i]) x _ _ r2 (fun j hj => by rw [if_pos hj]) J3 lw (fun j v hv => ?_) e2 _ fun s3 G3 H3 x3 I3 l3 m3 p3 => ?_
    · dsimp only at hv
      split at hv
      · cases hv
      · exact hv
    have w3 : wipe s3 own = wipe σ own := by
      rw [← wipe_idem (s := σ)]
      refine wipe_same m3 fun j cj => ?_
      by_cases hj : j < (wipe σ own).length
      · rw [List.getElem?_eq_getElem hj]
        exact p3 j _ (by dsimp only; rw [if_neg (by simpa using cj), List.getElem?_eq_getElem hj])
      · rw [List.getElem?_eq_none (by omega), List.getElem?_eq_none (by omega)]
    refine ⟨w3, ?_⟩
    have xx := (x1.trans x2).trans x3
    refine hb F G3 H3 r2 s3 _ _ k r3 I3 l3 e4 _ fun G4 H4 x4 I4 l4 => ?_
    cases k with
    | false => exact ⟨G4, r3, ac, s3, xx.trans x4, I4, l4, w3, e5⟩
    | true =>
      obtain ⟨⟨t, r5⟩, e6, e7⟩ := Option.bind_eq_some_iff.mp (show (e r3).bind _ = _ from e5)
      dsimp only at e7
      split at e7
      · rename_i cl
        rw [if_pos rfl]
        refine he F G4 H4 r3 s3 _ _ t r5 I4 l4 e6 _ fun y G5 H5 x5 I5 l5 => ?_
        have I6 : SI K F G5 H5 ((r5 ++ (tm ++ [.ls ac])) ++ [t]) ((s3 ++ (us ++ [some (.ref Dn)])) ++ [some y]) := by simpa only [List.append_assoc] using I5
        have lt : tm.length = us.length := by have := I.len; simp at this; omega
        have ix : (r5 ++ (tm ++ [T.ls ac]))[(r5 ++ tm).length]? = some (.ls ac) := by
          rw [← List.append_assoc, List.getElem?_append_right (Nat.le_refl _)]
          simp
        obtain ⟨a, vs, z1, z2, z3, J6⟩ := I6.push (by simp; omega) ix
        have hx : (s3 ++ (us ++ [some (V.ref Dn)]))[(r5 ++ tm).length]? = some (some (.ref Dn)) := by
          rw [← List.append_assoc, List.getElem?_append_right (by simp; omega)]
          simp [l5, lt]
        rw [hx] at z1
        cases z1
        refine ⟨vs, z2, bigl (z3 ▸ cl), G5, r5, ac ++ [t], s3, (xx.trans x4).trans x5, ?_, l5, w3, e7⟩
        rw [← List.append_assoc, List.set_append_right _ _ (Nat.le_refl _)] at J6
        simpa using J6
      · cases e7
  · have ei : i = l.length := by omega
    subst ei
    rw [List.drop_length] at e1
    cases e1
    exact Or.inl ⟨(hJ F G1 H1 _ _ (x0.trans x1) I1 l.length).2 (Nat.le_refl _), done G1 H1 σ1 x1 I1 l1 w1⟩
def dComp (f : ID) (h : GD) (b : BD) (e : MD) (own : List Nat) : ED := fun r => (f r).bind fun p => (compD h b e own p.1 p.2 []).bind fun q => some (.nw (.ls q.1), restore p.2 own q.2)
theorem SI.newList {F : Fx} {G H : Hp} {r : List T} {x : List (Option V)} (I : SI K F G H r x) {p : Addr} (h : H p = none) : SI K F G (upd H p (.lst [])) (r ++ [.ls []]) (x ++ [some (.ref p)]) := SI.pack (ts := []) (vs := []) (by simpa using I) I.len h
theorem comp_end {F : Fx} {G0 G' H0 H' : Hp} {r0 r' : Env} {s σ' : L2.St} {tm : List T} {us : List (Option V)} {acc : List T} {own : List Nat} {y : Option V} (I0 : SI K F G0 H0 (r0 ++ tm) (s ++ us)) (l0 : r0.length = s.length) (xg : Ex G0 G') (I : SI K F G' H' (r' ++ (tm ++ [.ls acc])) (σ' ++ (us ++ [y]))) (hl : r'.length = σ'.length) (w : wipe σ' own = wipe s own) :
    SI K F G' H' (restore r0 own r' ++ (tm ++ [.ls acc])) (s ++ (us ++ [y])) ∧ (restore r0 own r').length = s.length := by
  obtain ⟨f, hr, _⟩ := I0.own
  obtain ⟨g1, _, k1, _⟩ := hr.split l0
  have J := I.restored hl k1 xg own
  rw [resV_get (wipe_len w) fun i c => of_wipe w c] at J
  exact ⟨J, by rw [restore_len, hl, wipe_len w]⟩
theorem de_comp {wi : TI} {g : TG} {tt : TT} {te : TE} {f : ID} {h : GD} {b : BD} {e : MD} {own : List Nat} (hi : DI K wi f) (hg : DG K (fun i => own.contains i) g h) (hb : DT K tt b) (he : DM K te e) : DE K (tLc wi g tt te own) (dComp f h b e own) := fun F G H r s tm us w r' I hl ee Q q => by
  obtain ⟨⟨l, r1⟩, e1, ee⟩ := Option.bind_eq_some_iff.mp ee
  obtain ⟨⟨acc, r2⟩, e2, ee⟩ := Option.bind_eq_some_iff.mp ee
  cases ee
  refine hi F G H r s tm us l r1 I hl e1 _ fun J G1 H1 x1 I1 l1 hJ Dn hD => ?_
  have I2 : SI K F G1 (upd H1 Dn (.lst [])) (r1 ++ (tm ++ [.ls []])) (s ++ (us ++ [some (.ref Dn)])) := by simpa only [List.append_assoc] using I1.newList hD
  exact comp_core hJ hg hb he e2 I2 (Ex.refl G1) rfl l1 fun G' H' σ' xg I3 l3 w3 => by
    obtain ⟨J3, m3⟩ := comp_end I1 l1 xg I3 l3 w3
    exact q _ G' H' (x1.trans xg) J3 m3 trivial
/-- two clauses -/
def comp2D (h : GD) (b : BD) (f1 : ID) (h1 : GD) (b1 : BD) (e : MD) (own own1 : List Nat) : List D → Env → List T → Option (List T × Env)
  | [], r, acc => some (acc, r)
  | d :: l, r, acc => (h (wipeT r own) (.fz d)).bind fun r1 => (b r1).bind fun p => if p.1 = true then (f1 p.2).bind fun q => (compD h1 b1 e own1 q.1 q.2 acc).bind fun z => comp2D h b f1 h1 b1 e own own1 l z.2 z.1 else comp2D h b f1 h1 b1 e own own1 l p.2 acc
def dComp2 (f : ID) (h : GD) (b : BD) (f1 : ID) (h1 : GD) (b1 : BD) (e : MD) (own own1 : List Nat) : ED := fun r => (f r).bind fun p => (comp2D h b f1 h1 b1 e own own1 p.1 p.2 []).bind fun q => some (.nw (.ls q.1), restore p.2 own q.2)
end
end Q
set_option Elab.async false
set_option linter.all false
set_option maxRecDepth 100000
set_option maxHeartbeats 2000000
namespace Q
open PySem PySem.Spec PyProof.Rows L2
variable [TbS]
section
variable {K : PySem.W.Frag}
/-! ### isinstance -/
inductive Cl where
  | int | bool | str | tuple | list
def Cl.nm : Cl → String
  | .int => "int"
  | .bool => "bool"
  | .str => "str"
  | .tuple => "tuple"
  | .list => "list"
def D.ty : D → Option String
  | .non => some "NoneType"
  | .bl _ => some "bool"
  | .int _ => some "int"
  | .str _ => some "str"
  | .tup _ => some "tuple"
  | .lst _ => some "list"
  | .scr _ => some "list"
  | _ => none
def D.isi : D → Cl → Option Bool
  | .non, _ => some false
  | .bl _, .int => some true
  | .bl _, .bool => some true
  | .bl _, _ => some false
  | .int _, .int => some true
  | .int _, _ => some false
  | .str _, .str => some true
  | .str _, _ => some false
  | .tup _, .tuple => some true
  | .tup _, _ => some false
  | .lst _, .list => some true
  | .lst _, _ => some false
  | .scr _, .list => some true
  | .scr _, _ => some false
  | _, _ => none
theorem ty_rp {H : Hp} {d : D} {v : V} {t : String} (h : Rp K H d v) (e : d.ty = some t) : TyX K H v (.type t) := by
  cases h with
  | non => cases e; exact .base .non
  | bl b => cases e; exact .base (.bl b)
  | int i => cases e; exact .base (.int i)
  | str x => cases e; exact .base (.str x)
  | lst a b => cases e; exact .base (.lst a)
  | tup a b =>
    cases e
    rcases a with (a | ⟨o, a⟩) | ⟨o, its, n, a, c, _⟩
    · exact .base (.tup a)
    · exact .fTuple a
    · exact .kTuple a c
  | scr a =>
    cases e
    rcases a with (a | ⟨o, a⟩) | ⟨o, its, n, a, c, _⟩
    · exact .base (.lst a)
    · exact .base (.frz a)
    · exact .kList a c
  | dk _ _ _ _ => cases e
  | dt _ _ _ _ _ => cases e
  | exc _ => cases e
  | fnc _ => cases e
theorem isi_kit {d : D} {c : Cl} {b : Bool} (e : d.isi c = some b) : ∃ t, d.ty = some t ∧ kitB t c.nm = some b := by
  cases d <;> cases c <;> first
    | (cases e; exact ⟨_, rfl, by decide +kernel⟩)
    | (cases e)
def dIsi (c : Cl) (f : FD) : ED := fun r => (f r).bind fun p => (p.1.isi c).bind fun b => some (.sh (.bl b), p.2)
theorem de_isi {c : Cl} {te : TE} {f : FD} (h : DF K te f) : DE K (tCB (rIsi K) (tCons te (tCons (tC (.ty c.nm)) tNil))) (dIsi c f) := fun F G H r s tm us w r' I hl e Q q => by
  obtain ⟨⟨d, r1⟩, e1, e⟩ := Option.bind_eq_some_iff.mp e
  obtain ⟨b, e2, e⟩ := Option.bind_eq_some_iff.mp e
  cases e
  refine h F G H r s tm us d _ I hl e1 _ fun v G1 H1 x1 I1 l1 hd => ?_
  obtain ⟨t, z1, z2⟩ := isi_kit e2
  exact ⟨v, .ty c.nm, .type t, .type c.nm, b, rfl, .ty _, ty_rp (Rp.sub I1.pl I1.gh _ _ hd) z1, kit_ty z2, q _ G1 H1 x1 (by simpa only [W.tm, W.vl, List.append_nil] using I1) l1 (.bl b)⟩
open Classical in
noncomputable def dIsX (K : PySem.W.Frag) (cv : Value) (f : FD) : ED := fun r => (f r).bind fun p => match p.1 with
  | .exc c => if ExcC K c then (PySem.W.kitOne K (.ref c) cv).bind fun b => some (.sh (.bl b), p.2) else none
  | _ => none
/-! ### repr -/
def rRep (K : PySem.W.Frag) : List V → Hp → VK → Prop := fun xs H Q => ∃ v x, xs = [v] ∧ Dp K H v x ∧ x.showable = true ∧ x.depth ≤ 190 ∧ x.shown.length ≤ sizeLine ∧ Q (.str x.shown) H
mutual
theorem dp_nodict {H : Hp} : ∀ (v : V) (x : PyData), Dp K H v x → x.hasDict = false
  | _, _, .non => by unfold PyData.hasDict; rfl
  | _, _, .bl b => by unfold PyData.hasDict; rfl
  | _, _, .int i => by unfold PyData.hasDict; rfl
  | _, _, .str z => by unfold PyData.hasDict; rfl
  | _, _, .lst h q => by unfold PyData.hasDict; exact dpL_nodict _ _ q
  | _, _, .tup h q => by unfold PyData.hasDict; exact dpL_nodict _ _ q
theorem dpL_nodict {H : Hp} : ∀ (v : List V) (x : List PyData), DpAll K H v x → PyData.hasDictAll x = false
  | _, _, .nil => by unfold PyData.hasDictAll; rfl
  | _, _, .cons h q => by unfold PyData.hasDictAll; rw [dp_nodict _ _ h, dpL_nodict _ _ q]; rfl
end
theorem call_rep {X : Cx} (gu : X.A.guards = some []) {k : Nat} (hr : Room k X.A) : CallR X (.builtin "repr") (rRep X.K) := by
  intro pins s σ H xs us Q I rel told
  obtain ⟨v, x, rfl, dp, sh, dep, len, q⟩ := told
  have un := hr.un
  match us, rel with
  | [u], .cons rx .nil =>
    have leaf : ∀ tk, EP X pins σ Q (.str x.shown tk) { s with toks := s.toks + 1 } := fun tk => ⟨.str x.shown, H, I.tok _, ⟨_, rfl⟩, q⟩
    have nd := dp_nodict _ _ dp
    obtain ⟨as, rd⟩ := Dp.reads I x v u dp rx
    cases dp with
    | non =>
      cases rx
      simp only [PyData.shown] at leaf
      exact call_repr_gives (typeIs_none s) F.slot_NoneType_repr F.entry_NoneType_repr (F.args_NoneType_repr_1 _) gives_none_repr (leaf _) (hx := by decide)
    | bl b =>
      cases rx
      simp only [PyData.shown] at leaf
      exact call_repr_gives (PySem.typeIs_bool s b) F.slot_bool_repr F.entry_bool_repr (F.args_bool_repr_1 _) (gives_bool_repr b) (leaf _) (hx := by cases b <;> decide)
    | int i =>
      obtain ⟨t, rfl⟩ := rx
      simp only [PyData.shown] at leaf
      simp only [PyData.showable, decide_eq_true_eq] at sh
      exact call_repr_gives (typeIs_int s i t) F.slot_int_repr F.entry_int_repr (F.args_int_repr_1 _) (gives_int_repr i t sh) (leaf _) (hx := int_text_fits sh)
    | str z =>
      obtain ⟨t, rfl⟩ := rx
      simp only [PyData.shown] at leaf len
      exact call_repr_gives (typeIs_str s z t) F.slot_str_repr F.entry_str_repr (F.args_str_repr_1 _) (gives_str_repr z t) (leaf _) (hx := len)
    | lst a b =>
      cases rx
      exact repr_of_reads' rd sh (fun z => by rw [nd] at z; cases z) gu (by omega) (fun _ _ z => z) (fun h' t tk kp => ⟨.str _, H, I.kept (t' := tk) kp, ⟨_, rfl⟩, q⟩) len
    | tup a b =>
      cases rx
      exact repr_of_reads' rd sh (fun z => by rw [nd] at z; cases z) gu (by omega) (fun _ _ z => z) (fun h' t tk kp => ⟨.str _, H, I.kept (t' := tk) kp, ⟨_, rfl⟩, q⟩) len
def gRep : List D → Option Rs
  | [a] => a.py.bind fun x => if x.showable = true ∧ x.depth ≤ 190 ∧ x.shown.length ≤ 1000000 then some (.val (.str x.shown)) else none
  | _ => none
theorem dc_rep : DC K (rRep K) gRep := fun G H xs vs z sb pl q e Q k => by
  unfold gRep at e
  split at e
  · obtain ⟨x, e1, e⟩ := Option.bind_eq_some_iff.mp e
    split at e
    · rename_i c
      cases e
      cases q with | cons p q => cases q; exact ⟨_, x, rfl, py_dp _ _ x (Rp.sub pl sb _ _ p) e1, c.1, c.2.1, big c.2.2, k _ (.str _)⟩
    · cases e
  · cases e
end
/-! ### try: .. except x as n: m = n -/
end Q
set_option Elab.async false
set_option linter.all false
set_option maxRecDepth 100000
set_option maxHeartbeats 2000000
namespace Q
open PySem PySem.Spec PyProof.Rows L2
variable [TbS]
/-- the caller's heap knows the script alone, if it knows anything -/
def scriptH (K : PySem.W.Frag) (a : Addr) (vs : List Value) (ns : List Int) : Hp := fun b => if b = a ∧ K.lookup a = none then some (.frz { cls := .type "list", data := .seq vs.toArray } (.lst (ns.map V.int))) else none
omit [TbS] in
theorem scriptH_some {K : PySem.W.Frag} {a b : Addr} {vs : List Value} {ns : List Int} {o : HO} (h : scriptH K a vs ns b = some o) : b = a ∧ K.lookup a = none ∧ o = .frz { cls := .type "list", data := .seq vs.toArray } (.lst (ns.map V.int)) := by
  unfold scriptH at h
  split at h
  · rename_i c; cases h; exact ⟨c.1, c.2, rfl⟩
  · cases h
open Classical in
/-- what stands but the tables -/
noncomputable def noTb (H : Hp) : Hp := fun b => if TbS.tb b then none else H b
theorem noTb_of {H : Hp} {b : Addr} {o : HO} (h : noTb H b = some o) : H b = some o ∧ ¬ TbS.tb b := by
  unfold noTb at h
  split at h
  · cases h
  · rename_i c; exact ⟨h, c⟩
theorem noTb_in {H : Hp} {b : Addr} (c : ¬ TbS.tb b) : noTb H b = H b := by unfold noTb; rw [if_neg c]
/-- the law's worth is True at the script: that is its promise -/
theorem law_sp {K : PySem.W.Frag} {fn : FnT} {H : Hp} {a : Addr} {ns : List Int} {ps' : List T} (hS : SqL K H a (ns.map V.int)) (hT : ∀ b, TbS.tb b → GxR.TabG H b) (e : fn [.fz (.scr ns)] = some (.ret (.fz (.bl true)), ps')) (hl : ps'.length = 1) : spD K 1 fn [.ref a] H (fun v _ => v = .bl true) fun _ _ _ => False := by
  have hS' : SqL K (noTb H) a (ns.map V.int) := by
    rcases hS with h | h
    · have nt : ¬ TbS.tb a := fun t => by
        obtain ⟨ps, q, _⟩ := hT a t
        rcases h with h | ⟨o, h⟩ <;> (rw [h] at q; cases q)
      exact Or.inl (by unfold Rd; rw [noTb_in nt]; exact h)
    · exact Or.inr h
  refine ⟨rfl, noTb H, fun _ => False, [.fz (.scr ns)], _, ps', e, ⟨.cons (g := fun _ => False) (h := fun _ => False) (.fz (.scr hS')) .nil (fun b hb => hb) (fun b hb => hb) (fun b hb => hb.elim), fun b hb => hb.elim, fun _ _ z => Or.inl (noTb_of z).1, trivial, hT, fun b t => by unfold noTb; rw [if_pos t]⟩, fun v G' H' En => ?_⟩
  obtain ⟨f', rt, _⟩ := En.rt
  obtain ⟨_, _, _, k2, _⟩ := rt.split (by simpa using hl)
  cases k2 with | cons a1 _ _ _ _ => cases a1 with | fz q => cases q; rfl
/-! ### a def by its name -/
structure FnE (P : Program) (w : World) (K : PySem.W.Frag) (mg : Str → Option Value) (base : Heap) (k : Nat) (x : Str) (ps : List Str) (fn : FnT) : Prop where
  ex : ∃ f fd, FnG P w K mg base k f fd ps (spD K ps.length fn) ∧ mg x = some (.ref f) ∧ PySem.W.keepIn K (.ref f) = true ∧ Binds K fd ps []
  len : ∀ qs z, fn qs = some z → qs.length = ps.length
section
variable {X : Cx} {k : Nat} {x : Str} {ps : List Str} {fn : FnT} {E : L2.St → XK} {p pos : Pos} {e : Expr} {es : List Expr} {t : TA}
theorem pe_fnE (Ef : FnE X.prog X.w X.K X.mg X.base k x ps fn) (hr : Room k X.A) (gu : X.A.guards = some []) (hg : Gl X x) (hx : ∀ σ, PassesAt (L2.CX X.prog X.w) X σ (E σ))
    (ha : PA X (e :: es) t) (hdb : (x == ("__debug__" : Str)) = false := by decide) (he : starEach (e :: es) X.env = (false, eval e X.env) :: starEach es X.env := by rfl) (hpl : (backTo pos (starEach es X.env)).any (·.1) = false := by rfl) :
    PE X (.Call (.Name x p) (e :: es) [] pos) (tCallS (spD X.K ps.length fn) E t) := by
  obtain ⟨f, fd, G, hm, hk, hb⟩ := Ef.ex
  exact pe_fn G hr gu hg hm hk hb hx ha hdb he hpl
end
theorem dt_test {K : PySem.W.Frag} {te : TE} {f : FD} (h : DF K te f) : DT K (tTest te) (dBl f) := fun F G H r s tm us b r' I hl e Q q => dt_bl h F G H r s tm us b r' I hl e Q q
end Q
set_option Elab.async false
set_option linter.all false
set_option maxRecDepth 100000
set_option maxHeartbeats 2000000
namespace Q
open PySem PySem.Spec PyProof.Rows L2
/-! ### reckoning with what a def is worth -/
theorem seq_nx {g h : SD} {r r1 : Env} (e : g r = some (.nx r1)) : dSeq g h r = h r1 := by unfold dSeq; rw [e]; rfl
theorem seq_rt {g h : SD} {r r1 : Env} {w : W} (e : g r = some (.rt w r1)) : dSeq g h r = some (.rt w r1) := by unfold dSeq; rw [e]; rfl
theorem seq_ex {g h : SD} {r r1 : Env} {c : Addr} (e : g r = some (.ex c r1)) : dSeq g h r = some (.ex c r1) := by unfold dSeq; rw [e]; rfl
theorem fn_rt {n N : Nat} {fx : List Bool} {b : SD} {ps : List T} {d : D} {r : Env} (hl : ps.length = n) (e : b (ps ++ List.replicate (N - n) .un) = some (.rt (.sh d) r)) (h : n ≤ r.length) : fnD n N fx b ps = some (.ret (.fz d), outP fx ps r) := by
  unfold fnD
  rw [if_pos hl, e]
  simp [retW, h]
theorem dataL_fz : ∀ l : List D, dataL (l.map .fz) = some l
  | [] => rfl
  | d :: l => by simp [dataL, T.data, dataL_fz l]
/-- a loop that goes on -/
theorem loop_fold {h : GD} {body : SD} {α : Type} (st : α → Env → Prop) (f : α → D → α) (a0 : α) (l : List D) (hs : ∀ pre d post, l = pre ++ d :: post → ∀ r, st (pre.foldl f a0) r → ∃ r1 r2, h r (.fz d) = some r1 ∧ body r1 = some (.nx r2) ∧ st (f (pre.foldl f a0) d) r2) :
    ∀ (post pre : List D) (r : Env), l = pre ++ post → st (pre.foldl f a0) r → ∃ r', loopD h body post r = some (.nx r') ∧ st (l.foldl f a0) r'
  | [], pre, r, e, p => ⟨r, rfl, by rw [e, List.append_nil]; exact p⟩
  | d :: post, pre, r, e, p => by
    obtain ⟨r1, r2, e1, e2, p2⟩ := hs pre d post e r p
    obtain ⟨r', e3, p3⟩ := loop_fold st f a0 l hs post (pre ++ [d]) r2 (by rw [e]; simp) (by rw [List.foldl_append]; exact p2)
    refine ⟨r', ?_, p3⟩
    simp only [loopD, e1, e2, Option.bind_some]
    exact e3
theorem loop_all {h : GD} {body : SD} {α : Type} {st : α → Env → Prop} {f : α → D → α} {a0 : α} {l : List D} {r : Env} (hs : ∀ pre d post, l = pre ++ d :: post → ∀ r, st (pre.foldl f a0) r → ∃ r1 r2, h r (.fz d) = some r1 ∧ body r1 = some (.nx r2) ∧ st (f (pre.foldl f a0) d) r2) (p : st a0 r) :
    ∃ r', loopD h body l r = some (.nx r') ∧ st (l.foldl f a0) r' := loop_fold st f a0 l hs l [] r rfl p
theorem for_nx {f : ID} {h : GD} {body : SD} {r r1 : Env} {l : List D} {o : O} (e : f r = some (l, r1)) (e2 : loopD h body l r1 = some o) : dFor f h body r = some o := by unfold dFor; rw [e]; exact e2
theorem op_eval {g : List D → Option Rs} {fa fb : FD} {r r1 r2 : Env} {a b : D} {z : Rs} (h1 : fa r = some (a, r1)) (h2 : fb r1 = some (b, r2)) (h3 : g [a, b] = some z) : dOp g fa fb r = some (z.w, r2) := by
  simp [dOp, dWith, fdCons, fdNil, h1, h2, h3]
theorem un_eval {g : List D → Option Rs} {fa : FD} {r r1 : Env} {a : D} {z : Rs} (h1 : fa r = some (a, r1)) (h3 : g [a] = some z) : dWith (fdCons fa fdNil) g r = some (z.w, r1) := by
  simp [dWith, fdCons, fdNil, h1, h3]
theorem asg_nw {f : ED} {r r1 : Env} {t : T} {i : Nat} (h : f r = some (.nw t, r1)) : dAsg (xLift f) (gdName i) r = some (.nx (r1.set i t)) := by
  simp [dAsg, xLift, h, mv, gdName]
theorem asg_sh {f : ED} {r r1 : Env} {d : D} {i : Nat} (h : f r = some (.sh d, r1)) : dAsg (xLift f) (gdName i) r = some (.nx (r1.set i (.fz d))) := by
  simp [dAsg, xLift, h, mv, share, gdName]
theorem sh_sh {f : ED} {r r1 : Env} {d : D} (h : f r = some (.sh d, r1)) : dSh f r = some (d, r1) := by
  simp [dSh, h, share]
theorem sh_nw {f : ED} {r r1 : Env} {t : T} {d : D} (h : f r = some (.nw t, r1)) (hd : t.data = some d) : dSh f r = some (d, r1) := by
  simp [dSh, h, share, hd]
theorem bl_of {f : FD} {r r1 : Env} {b : Bool} (h : f r = some (.bl b, r1)) : dBl f r = some (b, r1) := by
  simp [dBl, h, D.bool]
theorem call_sh {fn : FnT} {f : AD} {r r1 r2 : Env} {ws : List W} {ps ps' : List T} {d : D} (h1 : f r = some (ws, r1)) (h2 : pars r1 ws = some (ps, r2)) (h3 : fn ps = some (.ret (.fz d), ps')) (h4 : ps'.length = ws.length) (h5 : back r2 ws ps' = r2 := by rfl) : dCall fn f r = some (.sh d, r2) := by
  simp [dCall, h1, h2, h3, h4, h5, resW]
theorem mulW_small {i j : Int} (a b : Nat) (hi : i.natAbs < 2 ^ a) (hj : j.natAbs < 2 ^ b) (h : a + b ≤ 1000000) (h0 : 0 < a) (h1 : 0 < b) : CMulW i j := wide_mul hi hj h0 h1 h
end Q
set_option Elab.async false
set_option linter.all false
set_option maxRecDepth 100000
set_option maxHeartbeats 2000000
namespace Q
open PySem PySem.Spec PyProof.Rows L2
variable [TbS]
/-! ### in, not in -/
def D.eqF : D → D → Bool
  | .non, .non => true
  | .bl a, .bl b => a == b
  | .bl a, .int b => (if a then 1 else 0) == b
  | .int a, .bl b => a == (if b then 1 else 0)
  | .int a, .int b => a == b
  | .str a, .str b => a == b
  | _, _ => false
section
variable {K : PySem.W.Frag}
theorem scal_flat {G : Hp} {d : D} {v : V} (h : Rp K G d v) (e : d.scal = true) : flatV v = true := by
  cases h with
  | non => rfl
  | bl b => rfl
  | int i => rfl
  | str x => rfl
  | _ => cases e
theorem scal_eqV {G : Hp} {d d' : D} {v v' : V} (h : Rp K G d v) (h' : Rp K G d' v') (e : d.scal = true) (e' : d'.scal = true) : eqV v v' = D.eqF d d' := by
  cases h with
  | non => cases h' <;> first | rfl | cases e'
  | bl b => cases h' <;> first | rfl | cases e'
  | int i => cases h' <;> first | rfl | cases e'
  | str x => cases h' <;> first | rfl | cases e'
  | _ => cases e
theorem scals_flat {G : Hp} : ∀ {l : List D} {vs : List V}, RpL K G l vs → l.all D.scal = true → vs.all flatV = true
  | _, _, .nil, _ => rfl
  | _, _, .cons h q, e => by
    rw [List.all_cons, Bool.and_eq_true] at e ⊢
    exact ⟨scal_flat h e.1, scals_flat q e.2⟩
theorem scals_in {G : Hp} {x : D} {v : V} (hx : Rp K G x v) (ex : x.scal = true) : ∀ {l : List D} {vs : List V}, RpL K G l vs → l.all D.scal = true → inV v vs = l.any fun y => D.eqF y x
  | _, _, .nil, _ => rfl
  | _, _, .cons h q, e => by
    rw [List.all_cons, Bool.and_eq_true] at e
    have := scals_in hx ex q e.2
    unfold inV at this ⊢
    rw [List.any_cons, List.any_cons, scal_eqV h hx e.1 ex, this]
def gIn (neg : Bool) : List D → Option Rs
  | [x, y] => y.items.bind fun l => if x.scal = true ∧ l.all D.scal = true then some (.val (.bl (if neg then !(l.any fun y => D.eqF y x) else l.any fun y => D.eqF y x))) else none
  | _ => none
theorem dc_in {neg : Bool} : DC K (rl2 (rIn K neg)) (gIn neg) := fun G H xs vs z sb pl q e Q k => by
  unfold gIn at e
  split at e
  · obtain ⟨l, e1, e⟩ := Option.bind_eq_some_iff.mp e
    split at e
    · rename_i c
      cases e
      cases q with | cons p q => cases q with | cons p2 q =>
        cases q
        obtain ⟨a, us, rfl, h, r⟩ := items_rp sb p2 e1
        refine ⟨a, us, rfl, h, scal_flat p c.1, scals_flat r c.2, ?_⟩
        rw [scals_in p c.1 r c.2]
        exact k _ (.bl _)
    · cases e
  · cases e
/-! ### x in range(n) -/
def dInR (neg : Bool) (fx fn : FD) : ED := fun r => (fx r).bind fun p => (fn p.2).bind fun q => match p.1, q.1 with
  | .int i, .int n => some (.sh (.bl (if neg then !decide (0 ≤ i ∧ i < n) else decide (0 ≤ i ∧ i < n))), q.2)
  | _, _ => none
/-! ### sum, int -/
def intsD : List D → Option (List Int)
  | [] => some []
  | .int i :: l => (intsD l).map (i :: ·)
  | _ => none
def gInt : List D → Option Rs
  | [.int i] => some (.val (.int i))
  | [.bl b] => some (.val (.int (if b then 1 else 0)))
  | _ => none
theorem dc_int : DC K (fun xs H Q => (∃ i, xs = [V.int i] ∧ Q (.int i) H) ∨ ∃ k, xs = [V.bl k] ∧ Q (.int (if k then 1 else 0)) H) gInt := fun G H xs vs z sb pl q e Q k => by
  unfold gInt at e
  split at e
  · cases e
    cases q with | cons p q => cases q; cases p; exact Or.inl ⟨_, rfl, k _ (.int _)⟩
  · cases e
    cases q with | cons p q => cases q; cases p; exact Or.inr ⟨_, rfl, k _ (.int _)⟩
  · cases e
end
/-! ### a dict of the top, its keys texts: name.get(e) -/
def KTab (K : PySem.W.Frag) (w : World) (a : Addr) (tbl : Str → V) : Prop := ∃ es n, K.lookup a = some ⟨.type "dict", none, .dict es n, #[]⟩ ∧ PySem.W.KeysLit w.params es.toList ∧ (a == sysModules) = false ∧ ∀ x, RelV (tbl x) ((findBy Value.isStrOf es x).getD .none)
def rKGet (tbl : Str → V) : V → Hp → VK → Prop := fun y H Q => ∃ z, y = .str z ∧ Q (tbl z) H
section
variable {X : Cx} {e : Expr} {x : Str} {p apos cpos : Pos} {ty : TE} {a : Addr} {tbl : Str → V}
theorem pe_kget (hg : Gl X x) (hm : X.mg x = some (.ref a)) (kt : KTab X.K X.w a tbl) (he : PE X e ty) (m : M1 X (.Name x p) "get" apos e cpos) (hd : (x == ("__debug__" : Str)) = false := by decide) : PE X (.Call (.Attribute (.Name x p) "get" apos) [e] [] cpos) (tUn (rKGet tbl) ty) := by
  refine ⟨fun pins s σ H Q I h => ?_⟩
  obtain ⟨es, n, hl, hk, low, rel⟩ := kt
  refine wpAny_Call_method m.base m.few m.line PySem.F.plainAttrs_dict PySem.F.slot_dict_get PySem.F.type_dict_get (thn ((pe_glob (v := .ref a) (pos := p) hg hm rfl hd).run pins s σ H (fun v H1 => v = .ref a ∧ H1 = H) I ⟨rfl, rfl⟩) fun u s1 ⟨v, H1, I1, rv, ev⟩ => ?_)
  obtain ⟨rfl, rfl⟩ := ev
  obtain rfl : u = Value.ref a := rv
  have ha := I1.kIn _ _ hl
  refine ⟨⟨_, ha, rfl⟩, fun b q => by cases q; exact ⟨_, ha, rfl⟩, ?_⟩
  rw [m.trees]
  refine Calls.callWith_builtin rfl (Calls.evalArgs_plain (Calls.spliced_cons (thn (he.run pins s1 σ _ _ I1 h) fun iv s2 ⟨y, H2, I2, ry, z, ez, q2⟩ => Calls.spliced_nil ?_)))
  subst ez
  obtain ⟨t, rfl⟩ := (show ∃ t, iv = Value.str z t from ry)
  have hm' := PySem.W.mapOf_K (prog := X.prog) (w := X.w) I2.kIn hl hk
  exact call_meetsIn PySem.F.slot_dict_get hm'.typeIs PySem.F.entry_dict_get (PySem.F.args_dict_get_2 _ _) (meets_dict_get (strKind X.prog X.w) a (strKind_is X.prog X.w z t) low) ⟨_, hm', ⟨_, H2, I2.tok _, rel z, q2⟩⟩
end
section
variable {K : PySem.W.Frag}
def gKGet (tb : Str → D) : List D → Option Rs
  | [.str x] => some (.val (tb x))
  | _ => none
theorem dc_kget {tb : Str → D} {tbl : Str → V} (h : ∀ G x, Rp K G (tb x) (tbl x)) : DC K (rl1 (rKGet tbl)) (gKGet tb) := fun G H xs vs z sb pl q e Q k => by
  unfold gKGet at e
  split at e
  · cases e
    cases q with | cons p q => cases q; cases p; exact ⟨_, rfl, k _ (h G _)⟩
  · cases e
/-- texts and what they stand for -/
def tabD : List (Str × Int) → Str → D
  | [], _ => .non
  | (k, i) :: l, x => if k == x then .int i else tabD l x
def tabV : List (Str × Int) → Str → V
  | [], _ => .non
  | (k, i) :: l, x => if k == x then .int i else tabV l x
theorem tab_rp (G : Hp) : ∀ (l : List (Str × Int)) (x : Str), Rp K G (tabD l x) (tabV l x)
  | [], _ => .non
  | (k, i) :: l, x => by
    unfold tabD tabV
    split
    · exact .int i
    · exact tab_rp G l x
/-- an entry of a dict is this one -/
def EntIs (d : DictEntry) (p : Str × Int) : Prop := (∃ t, d.key = .str p.1 t) ∧ ∃ t, d.val = .int p.2 t
def EntsAre : List DictEntry → List (Str × Int) → Prop
  | [], [] => True
  | d :: ds, p :: ps => EntIs d p ∧ EntsAre ds ps
  | _, _ => False
theorem tab_find : ∀ {ds : List DictEntry} {ps : List (Str × Int)} (x : Str), EntsAre ds ps → RelV (tabV ps x) (((ds.find? fun e => Value.isStrOf x e.key).map (·.val)).getD .none)
  | [], [], x, _ => rfl
  | [], _ :: _, x, h => h.elim
  | _ :: _, [], x, h => h.elim
  | d :: ds, (k, i) :: ps, x, ⟨⟨⟨t, h1⟩, u, h2⟩, h⟩ => by
    rw [List.find?_cons]
    have : Value.isStrOf x d.key = (k == x) := by rw [h1]; rfl
    rw [this]
    unfold tabV
    cases c : k == x with
    | true => simp only [if_true, Option.map_some, Option.getD_some]; rw [h2]; exact ⟨u, rfl⟩
    | false => exact tab_find x h
theorem ktab_of {w : World} {a : Addr} {es : Array DictEntry} {n : Nat} {ps : List (Str × Int)} (hl : K.lookup a = some ⟨.type "dict", none, .dict es n, #[]⟩) (hk : PySem.W.KeysLit w.params es.toList) (low : (a == sysModules) = false) (h : EntsAre es.toList ps) : KTab K w a (tabV ps) := by
  refine ⟨es, n, hl, hk, low, fun x => ?_⟩
  obtain ⟨l⟩ := es
  unfold findBy
  rw [List.find?_toArray]
  exact tab_find x h
/-- a tuple of the top, of texts -/
def strsAre : List Value → List Str → Prop
  | [], [] => True
  | v :: vs, x :: xs => (∃ t, v = .str x t) ∧ strsAre vs xs
  | _, _ => False
theorem vals_strs : ∀ {vs : List Value} {xs : List Str}, strsAre vs xs → Vals (xs.map V.str) vs
  | [], [], _ => .nil
  | [], _ :: _, h => h.elim
  | _ :: _, [], h => h.elim
  | v :: vs, x :: xs, ⟨h1, h2⟩ => .cons h1 (vals_strs h2)
theorem rp_strs (G : Hp) : ∀ xs : List Str, RpL K G (xs.map D.str) (xs.map V.str)
  | [] => .nil
  | x :: xs => .cons (.str x) (rp_strs G xs)
theorem ktup_of {a : Addr} {dd : Option Addr} {sl : Array (Option Value)} {its : Array Value} {n : Nat} {xs : List Str} (hl : K.lookup a = some ⟨.type "tuple", dd, .seq its n, sl⟩) (hz : its.size ≤ sizeLine) (h : strsAre its.toList xs) (G : Hp) : Rp K G (.tup (xs.map D.str)) (.ref a) :=
  .tup (Or.inr ⟨_, its, n, hl, rfl, rfl, hz, vals_strs h⟩) (rp_strs G xs)
end
/-! ### f() -/
/-! ### a def that calls itself -/
theorem fn_none {P : Program} {w : World} {K : PySem.W.Frag} {mg : Str → Option Value} {base : Heap} {k : Nat} {f : Addr} {fd : FuncData} {ps : List Str} : FnG P w K mg base k f fd ps (spD K ps.length fun _ => none) :=
  ⟨fun vs H Q E h => h.1, fun A outer s H args us vs Q E _ _ _ _ _ h => by
    obtain ⟨_, _, _, _, _, _, e, _⟩ := h
    cases e⟩
/-- what stands at the top of a def's name -/
structure Named (K : PySem.W.Frag) (mg : Str → Option Value) (x : Str) (f : Addr) (fd : FuncData) (ps : List Str) : Prop where
  at_ : mg x = some (.ref f)
  keep : PySem.W.keepIn K (.ref f) = true
  binds : Binds K fd ps []
end Q
set_option Elab.async false
set_option linter.all false
set_option maxRecDepth 100000
set_option maxHeartbeats 2000000
namespace Q
open PySem PySem.Spec PyProof.Rows L2
/-! ### how much lies in a thing -/
mutual
def D.size : D → Nat
  | .tup l => sizeL l + 1
  | .lst l => sizeL l + 1
  | _ => 1
def sizeL : List D → Nat
  | [] => 0
  | d :: l => d.size + sizeL l
end
def sizeAt (i : Nat) : Env → Nat := fun r => (match (r[i]?).bind T.data with
  | some d => d.size
  | none => 0) + 1
end Q
set_option Elab.async false
set_option linter.all false
set_option maxRecDepth 100000
set_option maxHeartbeats 2000000
namespace Q
open PySem PySem.Spec PyProof.Rows L2
variable [TbS]
section
variable {K : PySem.W.Frag}
/-! ### for x in reversed(list) -/
def dRev (f : FD) : ID := fun r => (f r).bind fun x => match x.1 with
  | .lst l => some (l.reverse, x.2)
  | _ => none
/-! ### for x in range(i, j, -1) -/
def downto (i : Int) (n : Nat) : List D := (List.range n).map fun (k : Nat) => .int (i + (k : Int) * (-1))
def dRange3 (f : FDs) : ID := fun r => (f r).bind fun p => match p.1 with
  | [.int i, .int j, .int c] => if c = -1 ∧ -(2 ^ 62) ≤ i ∧ i < 2 ^ 62 ∧ -(2 ^ 62) ≤ j ∧ j < 2 ^ 62 then some (downto i (i - j).toNat, p.2) else none
  | _ => none
/-! ### xs * k -/
def gMulL : List D → Option Rs
  | [.lst l, .int k] => if k ≤ 1000 ∧ l.length ≤ 1000 ∧ 0 ≤ k then some (.newL (List.replicate k.toNat l).flatten) else none
  | _ => none
theorem RpL.flat {G : Hp} {l : List D} {vs : List V} (h : RpL K G l vs) : ∀ n : Nat, RpL K G (List.replicate n l).flatten (List.replicate n vs).flatten
  | 0 => .nil
  | n + 1 => by
    rw [List.replicate_succ, List.replicate_succ, List.flatten_cons, List.flatten_cons]
    exact h.append (RpL.flat h n)
theorem dc_mulL : DC K (rl2 L2.rRep) gMulL := fun G H xs vs z sb pl q e Q k => by
  unfold gMulL at e
  split at e
  · rename_i l n
    split at e
    · rename_i c
      cases e
      cases q with | cons p q => cases q with | cons p2 q =>
        cases q
        cases p2
        cases p with | lst a b =>
          refine ⟨_, _, _, rfl, rfl, sub_ex sb a, by omega, by omega, ?_, fun p hp => k p _ hp (b.flat _)⟩
          rw [← b.length]
          have : l.length * n.toNat ≤ 1000 * 1000 := Nat.mul_le_mul c.2.1 (by omega)
          exact big (by omega)
    · cases e
  · cases e
/-! ### t[::-1], a tuple -/
end
section
variable {prog : Program} {w : World} {A : Around} {E : Value → Shared → Prop} {s : Shared}
theorem fm_congr {α β : Type} {f g : α → Option β} : ∀ {l : List α}, (∀ x ∈ l, f x = g x) → l.filterMap f = l.filterMap g
  | [], _ => rfl
  | a :: l, h => by rw [List.filterMap_cons, List.filterMap_cons, h a (by simp), fm_congr fun x hx => h x (by simp [hx])]
end
end Q
set_option Elab.async false
set_option linter.all false
set_option maxRecDepth 100000
set_option maxHeartbeats 2000000
namespace PySem.AutoSeq1
end PySem.AutoSeq1
namespace Q
open PySem PySem.Spec PyProof.Rows L2
variable [TbS]
/-! ### t[::-1] -/
section
variable {K : PySem.W.Frag}
def gRevT : List D → Option Rs
  | [.tup l] => some (.newT l.reverse)
  | _ => none
/-- name.extend(e), e a tuple -/
def dExtend (i : Nat) (f : FD) : ED := fun r => if isLs r[i]? = true then (f r).bind fun p => match p.1, p.2[i]? with
  | .tup t, some (.ls l) => if l.length + t.length ≤ 1000000 then some (.sh .non, p.2.set i (.ls (l ++ t.map .fz))) else none
  | _, _ => none
  else none
/-! ### a call of a name that holds a def -/
end
end Q
set_option Elab.async false
set_option linter.all false
set_option maxRecDepth 100000
set_option maxHeartbeats 2000000
namespace Q
open PySem PySem.Spec PyProof.Rows L2 Srt
variable [TbS]
/-! ### the order of lists of ints -/
def lexI : List Int → List Int → Bool
  | [], [] => false
  | [], _ :: _ => true
  | _ :: _, [] => false
  | x :: xs, y :: ys => if x = y then lexI xs ys else decide (x < y)
/-! ### tuples of ints compare so -/
/-! ### sorted(set(xs)) -/
/-! ### what sorted(set(xs)) is worth -/
def insI (x : List Int) : List (List Int) → List (List Int)
  | [] => [x]
  | y :: l => if lexI x y = true then x :: y :: l else if x = y then y :: l else y :: insI x l
def sortI (l : List (List Int)) : List (List Int) := l.foldr insI []
def tupsI : List D → Option (List (List Int))
  | [] => some []
  | .tup k :: l => (intsD k).bind fun n => (tupsI l).map (n :: ·)
  | _ => none
def tupD (n : List Int) : D := .tup (n.map .int)
def gSS : D → Option (List D)
  | .lst l => (tupsI l).bind fun ks => if ks.length < 64 ∧ (ks.all fun k => k.length == (ks.headD [0]).length && decide (0 < k.length)) = true then some ((sortI ks).map tupD) else none
  | _ => none
def dSS (f : FD) : ED := fun r => (f r).bind fun p => (gSS p.1).bind fun l => some ((Rs.newL l).w, p.2)
/-! ### xs[::-1], a list -/
def rRevLi (K : PySem.W.Frag) : V → Hp → VK → Prop := fun x H Q => ∃ a xs, x = .ref a ∧ SqL K H a xs ∧ ∀ p, H p = none → Q (.ref p) (upd H p (.lst xs.reverse))
theorem pe_revLi {X : Cx} {e : Expr} {te : TE} {k : Nat} {p1 p2 p3 pos : Pos} (he : PE X e te) : PE X (.Subscript e (.Slice none none (some (.UnaryOp .USub (.Constant (.int 1) k p1) p2)) p3) pos) (tUn (rRevLi X.K) te) := by
  refine ⟨fun pins s σ H Q I h => ?_⟩
  refine Subscript_ (thn (he.run pins s σ H _ I h) fun v s1 ⟨x, H1, I1, r1, q1⟩ => ?_)
  obtain ⟨a, xs, ex, hx, q⟩ := q1
  subst ex
  cases r1
  have hst : PO X (some (.UnaryOp .USub (.Constant (.int 1) k p1) p2)) (tPart (tUn (rU fun i => .int (-i)) (tC (.int 1)))) := po_some (pe_un un_neg pe_int)
  refine wpAny_Slice (thn (po_none.run pins s1 σ H1 (fun o H2 => o = none ∧ H2 = H1) I1 ⟨rfl, rfl⟩) fun vl s2 ⟨l, H2, I2, pl, el, e2⟩ => ?_)
  subst el e2
  refine thn (po_none.run pins s2 σ H2 (fun o H3 => o = none ∧ H3 = H2) I2 ⟨rfl, rfl⟩) fun vu s3 ⟨u, H3, I3, pu, eu, e3⟩ => ?_
  subst eu e3
  refine thn (hst.run pins s3 σ H3 (fun o H4 => o = some (-1) ∧ H4 = H3) I3 ⟨1, rfl, -1, rfl, rfl, rfl⟩) fun vs s4 ⟨o, H4, I4, ps, eo, e4⟩ => ?_
  subst eo e4
  have I5 : Inv X pins σ H4 { s4 with heap := s4.heap.push { cls := .type "slice", data := .fields #[vl, vu, vs] } } := I4.kept (t' := s4.toks) fun b ob q => Heap.get?_push_of_some _ q
  obtain ⟨its, r, ht, hz⟩ := I5.list hx
  have hlen := r.length
  show wpAny (model X.prog X.w) X.A (subscriptTail e (.Slice none none (some (.UnaryOp .USub (.Constant (.int 1) k p1) p2)) p3) (.ref a) (.ref s4.heap.objs.size)) (EP X pins σ Q) X.xe { s4 with heap := s4.heap.push { cls := .type "slice", data := .fields #[vl, vu, vs] } }
  refine tail_any (ops := [.ref a, .ref s4.heap.objs.size]) ht.isList.typeIs slot_list_getitem.lookup ?_ (by with_unfolding_all rfl)
  refine wpAny_getItem_list_slice ht.isList (Heap.IsSliceOf.new _ vl vu vs) pl pu ps (by decide) ?_ (by rw [List.size_toArray]; omega)
  rw [PySem.W.krv_pick]
  refine ⟨.ref _, _, I5.laid (t' := s4.toks) (o := .lst xs.reverse) (fun b ob q => Heap.get?_push_of_some _ q) (Nat.le_refl _) ?_, rfl, q _ (I5.hok.fresh (Nat.le_refl _))⟩
  exact ⟨by rw [List.length_reverse]; exact hz, _, 0, r.reverse, Heap.get?_push_size _ rfl⟩
def gRevL : List D → Option Rs
  | [.lst l] => some (.newL l.reverse)
  | _ => none
theorem dc_revL {K : PySem.W.Frag} : DC K (rl1 (rRevLi K)) gRevL := fun G H xs vs z sb pl q e Q k => by
  unfold gRevL at e
  split at e
  · cases e
    cases q with | cons p q =>
      cases q
      cases p with | lst a b => exact ⟨_, _, rfl, Or.inl (Or.inl (sub_ex sb a)), fun p hp => k p _ hp b.reverse⟩
  · cases e
/-! ### sorted(xs), xs a list of tuples of ints -/
def insS (x : List Int) : List (List Int) → List (List Int)
  | [] => [x]
  | y :: l => if lexI y x = true then y :: insS x l else x :: y :: l
def sortS (l : List (List Int)) : List (List Int) := l.foldr insS []
def gSortL : D → Option (List D)
  | .lst l => (tupsI l).bind fun ks => if (ks.all fun k => k.length == (ks.headD [0]).length && decide (0 < k.length)) = true then some ((sortS ks).map tupD) else none
  | _ => none
def dSortL (f : FD) : ED := fun r => (f r).bind fun p => (gSortL p.1).bind fun l => some ((Rs.newL l).w, p.2)
/-! ### str(i) -/
def gStrI : List D → Option Rs
  | [.int i] => if i.natAbs.log2 < 1920 then some (.val (.str (toString i))) else none
  | _ => none
theorem dc_strI {K : PySem.W.Frag} : DC K (fun xs H Q => ∃ i, xs = [V.int i] ∧ i.natAbs.log2 < 1920 ∧ Q (.str (toString i)) H) gStrI := fun G H xs vs z sb pl q e Q k => by
  unfold gStrI at e
  split at e
  · split at e
    · rename_i c
      cases e
      cases q with | cons p q => cases q; cases p; exact ⟨_, rfl, c, k _ (.str _)⟩
    · cases e
  · cases e
end Q
set_option Elab.async false
set_option linter.all false
set_option maxRecDepth 100000
set_option maxHeartbeats 2000000
namespace Q
open PySem PySem.Spec PyProof.Rows L2
variable [TbS]
/-! ### texts put together -/
section
variable {K : PySem.W.Frag}
def rCatSt : R2 := fun x y H Q => ∃ i j, x = V.str i ∧ y = V.str j ∧ i.length + j.length ≤ sizeLine ∧ Q (.str (i ++ j)) H
theorem op_catSt {X : Cx} : OpR X (binaryOp .Add) rCatSt := op_add_str
def gCatS : List D → Option Rs
  | [.str a, .str b] => if a.length + b.length ≤ 1000000 then some (.val (.str (a ++ b))) else none
  | _ => none
theorem dc_catS : DC K (rl2 rCatSt) gCatS := fun G H xs vs z sb pl q e Q k => by
  unfold gCatS at e
  split at e
  · split at e
    · rename_i c
      cases e
      cases q with | cons p q => cases q with | cons p2 q => cases q; cases p; cases p2; exact ⟨_, _, rfl, rfl, big c, k _ (.str _)⟩
    · cases e
  · cases e
end
/-! ### xs[i].append(c): a list within an own list -/
/-! ### n.bit_length() -/
/-! ### name[e] op= v -/
section
variable {K : PySem.W.Frag}
def dAugIx (i : Nat) (f : FD) (gop : List D → Option Rs) (g : FD) : SD := fun r => if isLs r[i]? = true then (f r).bind fun p => match p.1, p.2[i]? with
  | .int k, some (.ls l) => if 0 ≤ k then (ixN l.length k).bind fun j => match l[j]? with
    | some (.fz d) => (g p.2).bind fun q => (gop [d, q.1]).bind fun z => match z, q.2[i]? with
      | .val d', some (.ls l') => if l'.length = l.length then some (.nx (q.2.set i (.ls (l'.set j (.fz d'))))) else none
      | _, _ => none
    | _ => none
    else none
  | _, _ => none
  else none
end
end Q
set_option Elab.async false
set_option linter.all false
set_option maxRecDepth 100000
set_option maxHeartbeats 2000000
namespace Q
open PySem PySem.Spec PyProof.Rows L2
/-! ### dicts keyed by tuples that may be kept ones: with each key goes the address of its tuple -/
def valX (kas : KA) (k : List Key) : Option V := (kas.find? fun p => decide (p.1 = k)).map (·.2.2)
def putX (kas : KA) (k : List Key) (b : Addr) (v : V) : KA := if (valX kas k).isSome = true then kas.map (fun p => if p.1 = k then (p.1, p.2.1, v) else p) else kas ++ [(k, b, v)]
theorem valX_pos {p : List Key × Addr × V} {kas : KA} {k : List Key} (e : p.1 = k) : valX (p :: kas) k = some p.2.2 := by
  unfold valX
  rw [List.find?_cons_of_pos (by simpa using e)]
  rfl
theorem valX_neg {p : List Key × Addr × V} {kas : KA} {k : List Key} (e : ¬ p.1 = k) : valX (p :: kas) k = valX kas k := by
  unfold valX
  rw [List.find?_cons_of_neg (by simpa using e)]
theorem KX.val {kas : KA} {xs : List (List Key × Addr × Value)} (r : KX kas xs) (k : List Key) : RelO (valX kas k) ((atKey xs k).map (·.2)) := by
  induction r with
  | nil => exact True.intro
  | @cons p q ps qs h t ih =>
    obtain ⟨h1, _, h2⟩ := h
    by_cases e : p.1 = k
    · have e' : q.1 = k := h1.symm.trans e
      have b : atKey (q :: qs) k = some q.2 := by simp [atKey, List.find?_cons, e']
      rw [valX_pos e, b]; exact h2
    · have e' : ¬ q.1 = k := fun z => e (h1.trans z)
      have b : atKey (q :: qs) k = atKey qs k := by simp [atKey, List.find?_cons, e']
      rw [valX_neg e, b]; exact ih
theorem KX.put {kas : KA} {xs : List (List Key × Addr × Value)} (r : KX kas xs) (k : List Key) (b : Addr) {y : V} {u : Value} (ry : RelV y u) : KX (putX kas k b y) (storedH xs k b u) := by
  have e : (valX kas k).isSome = (atKey xs k).isSome := by rw [(r.val k).isSome_eq, Option.isSome_map]
  unfold putX storedH
  rw [e]
  by_cases q : (atKey xs k).isSome = true
  · rw [if_pos q, if_pos q]
    clear e q
    induction r with
    | nil => exact .nil
    | @cons p q ps qs h t ih =>
      rw [List.map_cons, List.map_cons]
      refine .cons ?_ ih
      obtain ⟨h1, h2, h3⟩ := h
      unfold putAt
      by_cases e : p.1 = k
      · rw [if_pos e, if_pos (h1.symm.trans e)]; exact ⟨h1, h2, ry⟩
      · rw [if_neg e, if_neg (fun z => e (h1.trans z))]; exact ⟨h1, h2, h3⟩
  · rw [if_neg q, if_neg q]; exact Paired.snoc r ⟨rfl, rfl, ry⟩
/-! ### for k in d -/
end Q
set_option Elab.async false
set_option linter.all false
set_option maxRecDepth 100000
set_option maxHeartbeats 2000000
namespace Q
open PySem PySem.Spec PyProof.Rows L2 GxR
/-! ### generator expressions whose element is any expression -/
/-- the frame of a generator expression that X's code made at s -/
abbrev gxC (X : Cx) (s : Shared) (H : Hp) (cenv : PySem.Env) (fp : List Addr) : Cx :=
  { X with A := X.A.in1.in1.deeper cenv, s_0 := s, H_0 := H, env := cenv, outer := X.stack, stack := cenv :: X.stack, ex := fp, fn := fun _ => false, pn := [], xe := fun _ _ => False }
structure GxOk (N : List Str) (sc scope : Scope) (own : List (Str × Nat)) : Prop where
  kind : scope.kind = .function
  co : scope.isCoroutine = false
  cell : ∀ y ∈ scope.names, y.2 ≠ .cell
  dot : scope.names.lookup (".0" : Str) = some NameKind.local
  ix : ∀ p ∈ own, N[p.2]? = some p.1
  free : ∀ y ∈ scope.names, y.2 = .free → sc.names.lookup y.1 = some .cell ∨ sc.names.lookup y.1 = some .free
  own : ∀ y ∈ scope.names, y.2 = .local → y.1 ∈ own.map (·.1) ∨ y.1 ∉ N
section
variable {X : Cx} {pins : List (Addr × Obj)} {σ : L2.St} {H : Hp} {s : Shared}
theorem gens_ok {G : Array GenState} (I : Inv X pins σ H s) (hg : AllBare G) : Inv X pins σ H { s with gens := G } :=
  ⟨I.ok, I.os, hg, I.base, I.loc, I.cell, I.free, I.freeC, I.pin, I.hok, I.len⟩
theorem gx_start {scope : Scope} {own : List (Str × Nat)} {fp : List Addr} {itv code : Value} {h' : Heap} {gob : Obj} {G' : Array GenState} {tk : Nat} {cenv : PySem.Env}
    (I : Inv X pins σ H s) (ok : GxOk X.N X.env.scope scope own) (hN : X.N.Nodup) (hfp : ∀ b ∈ fp, FpOk X pins H b ∧ b < s.heap.objs.size)
    (hn' : h'.Ns s.heap.objs.size (fun y => if y = ".0" then some itv else none)) (hs' : Heap.SameBut s.heap.objs.size (s.heap.push { cls := .type "frame", data := .dict #[] }) h')
    (hgob : ∀ v, gob.data ≠ .cell v) (hfr : gob.isFreed = false) (hG : AllBare G') (hcenv : genEnv scope (cloFrom X.env.cells scope.names []) s.heap.objs.size code builtinsNs X.env = cenv) :
    Inv (gxC X s H cenv fp) [(h'.objs.size, gob)] (wipe σ (own.map (·.2))) H { s with heap := h'.push gob, gens := G', toks := tk } := by
  have hfree : ∀ y ∈ scope.names, y.2 = .free → ∃ c, X.env.cells.lookup y.1 = some c := fun y hy e => by
    rcases ok.free y hy e with k | k
    · exact I.ok.has _ (.inl k)
    · exact I.ok.has _ (.inr k)
  have hsz : h'.objs.size = s.heap.objs.size + 1 := by rw [hs'.1, Heap.size_push]
  have kp : ∀ b o, s.heap.get? b = some o → (h'.push gob).get? b = some o := fun b o e => Heap.get?_push_of_some _ (hs'.extBut b o (Nat.ne_of_lt (Heap.lt_size e)) (Heap.get?_push_of_some _ e))
  have hL : cenv.locals = s.heap.objs.size := by rw [← hcenv]; rfl
  have hF : cenv.frame = some cenv.locals := by rw [← hcenv]; rfl
  have hcl : cenv.cells = cloFrom X.env.cells scope.names [] := by rw [← hcenv]; rfl
  have hsc : cenv.scope = scope := by rw [← hcenv]; rfl
  have cm : ∀ {y c}, (y, c) ∈ cloFrom X.env.cells scope.names [] → X.env.cells.lookup y = some c ∧ c < s.heap.objs.size := fun {y c} hm => by
    rcases cloFrom_mem hm with hm | ⟨h1, rfl⟩
    · cases hm
    · obtain ⟨c, hc⟩ := hfree _ h1 rfl
      rw [hc]
      obtain ⟨w, z⟩ := I.cell _ _ hc
      exact ⟨rfl, z.lt⟩
  have mem : ∀ {y c}, cenv.cells.lookup y = some c → X.env.cells.lookup y = some c ∧ c < s.heap.objs.size := fun {y c} e => by
    rw [hcl] at e
    exact cm (PySem.mem_of_lookup e)
  have look : ∀ {y}, scope.names.lookup y = some .free → ∃ c, cenv.cells.lookup y = some c ∧ X.env.cells.lookup y = some c := fun {y} hl => by
    have hy : (y, NameKind.free) ∈ scope.names := PySem.mem_of_lookup hl
    obtain ⟨c', e'⟩ := mem_lookup (cloFrom_has (cells := X.env.cells) (acc := []) hy)
    rw [← hcl] at e'
    exact ⟨c', e', (mem e').1⟩
  have okB : (gxC X s H cenv fp).Ok := by
    refine ⟨I.ok.mod, by show cenv.scope.kind = _; rw [hsc]; exact ok.kind, by show cenv.globals = _; rw [← hcenv]; exact I.ok.glob, by show cenv.builtins = _; rw [← hcenv]; rfl, by show s.heap.objs.size ≤ cenv.locals; rw [hL]; exact Nat.le_refl _,
      fun y z c e1 e2 => ?_, fun y hy => ?_, fun y c z e => (by cases z), I.ok.hd, ?_, .inr ⟨rfl, hF⟩, fun b hb => ⟨?_, fun y c e z => ?_⟩, I.bs, Nat.le_trans I.ok.bsz I.sz, fun b o e hb => ?_, fun b hb z => ?_, I.stack, I.stkFree⟩
    · exact I.ok.inj y z c (mem e1).1 (mem e2).1
    · show ∃ c, cenv.cells.lookup y = some c
      rcases hy with hy | hy
      · have e : scope.names.lookup y = some .cell := by rw [← hsc]; exact hy
        exact absurd rfl (ok.cell _ (PySem.mem_of_lookup e))
      · have e : scope.names.lookup y = some .free := by rw [← hsc]; exact hy
        obtain ⟨c, h1, _⟩ := look e
        exact ⟨c, h1⟩
    · show (X.A.in1.in1.deeper cenv).frames = some (cenv :: X.stack)
      have z := I.ok.frames
      show Option.map _ X.A.frames = _
      rw [z]
      rfl
    · show b ≠ cenv.locals
      rw [hL]; exact Nat.ne_of_lt (hfp b hb).2
    · exact (hfp b hb).1.2.2.2.2.1 y c (mem e).1 z
    · rcases (hfp b hb).1.2.2.2.1 with z | z
      · exact I.ok.noex b o e z
      · exact absurd (Nat.lt_of_lt_of_le (Heap.lt_size e) (Nat.le_trans I.ok.bsz z)) (Nat.lt_irrefl _)
    · rcases List.mem_cons.mp (I.stkSub b z) with z | z
      · exact (hfp b hb).1.2.1 z
      · exact (hfp b hb).1.2.2.1 z
  refine ⟨okB, rfl, hG, Un.kept kp, ⟨fun y => if y = ".0" then some itv else none, ?_, fun i y av e1 e2 e3 => ?_⟩, fun y c e => ?_, ?_, fun y c e => ?_, fun p hp => ?_, I.hok.kept kp, by rw [wipe_length]; exact I.len⟩
  · show Heap.Ns _ cenv.locals _
    rw [hL]
    exact hn'.push _
  · obtain ⟨e2, hne⟩ := wipe_some e2
    have hfr : scope.names.lookup y = some .free := by
      have e3 : Vis cenv.scope y := e3
      rw [hsc] at e3
      rcases e3 with e | e | e
      · rcases ok.own _ (PySem.mem_of_lookup e) rfl with e' | e'
        · obtain ⟨p, hp, hpy⟩ := List.mem_map.mp e'
          have e3 := ok.ix p hp
          have : p.1 = y := hpy
          rw [this] at e3
          exact absurd (List.mem_map.mpr ⟨p, hp, nodup_ix hN e3 e1⟩) hne
        · exact absurd (List.mem_of_getElem? e1) e'
      · exact absurd rfl (ok.cell _ (PySem.mem_of_lookup e))
      · exact e
    obtain ⟨m, hn, hl⟩ := I.loc
    have hvis : Vis X.env.scope y := (ok.free _ (PySem.mem_of_lookup hfr) rfl).elim (fun k => .inr (.inl k)) (fun k => .inr (.inr k))
    obtain ⟨w, r, q⟩ := hl i y av e1 e2 hvis
    refine ⟨w, r, .inr ⟨.inr (by show cenv.scope.names.lookup y = _; rw [hsc]; exact hfr), ?_⟩⟩
    obtain ⟨c, h1, h2⟩ := look hfr
    rcases q with ⟨k, _⟩ | ⟨_, c', e', z⟩
    · have k : X.env.scope.names.lookup y = some .local := k
      rcases ok.free _ (PySem.mem_of_lookup hfr) rfl with k' | k' <;> rw [show X.env.scope.names.lookup y = _ from k'] at k <;> cases k
    · rw [h2] at e'; cases e'
      exact ⟨c, h1, z.keeps kp⟩
  · obtain ⟨w, z⟩ := I.cell y c (mem e).1
    exact ⟨w, z.keeps kp⟩
  · show H cenv.locals = none
    rw [hL]; exact I.hok.fresh (Nat.le_refl _)
  · exact I.freeC y c (mem e).1
  · have hp : p ∈ [(h'.objs.size, gob)] := hp
    have e := List.mem_singleton.mp hp
    subst e
    refine ⟨Heap.get?_push_size _ hfr, I.hok.fresh (by show s.heap.objs.size ≤ h'.objs.size; omega), ?_, fun z => ?_, hgob⟩
    · show h'.objs.size ≠ cenv.locals
      rw [hL, hsz]; exact Nat.succ_ne_self _
    · rcases List.mem_cons.mp (I.stkSub _ z) with z | z
      · have h1 : (X.env.locals : Nat) < s.heap.objs.size := I.lt
        have h2 : s.heap.objs.size + 1 = X.env.locals := hsz.symm.trans z
        exact Nat.lt_irrefl _ (Nat.lt_of_lt_of_le h1 (Nat.le_trans (Nat.le_succ _) (Nat.le_of_eq h2)))
      · exact I.nofs (by show s.heap.objs.size ≤ h'.objs.size; omega) z
/-! ### the protocol -/
def Slp (s s'' : Shared) : Prop := ∃ G, s'' = { s with gens := G } ∧ AllBare G
def gxY (stopP contP : Value → Shared → Prop) : Protocol := fun _ _ v s kap => stopP v s ∨ (contP v s ∧ ∀ s'', Slp s s'' → kap (.send .none) s'')
abbrev gxR (endP : Shared → Prop) : GenEnd := fun _ _ r s₁ => r = .ok .next ∧ endP s₁
theorem over_gx {A : Around} {elt : Expr} {gens : List Comprehension} {scope : Scope} {pos : Pos} {it acc : Value} {env : PySem.Env} : A.over (.compLoop (.GeneratorExp elt gens scope pos) 0 it acc env) [] = A.deeper env := by
  first
    | rfl
    | (obtain ⟨hd, d, fr, gs, u⟩ := A; simp [Around.over, Around.deeper, marksOver, frameCount, unitsOf, envsOf, guardsOf, pushEnvs, pushGuards, Code.envs, Code.env?, Code.isFrame, Code.guards, Code.isGuard, Code.weight, Code.frames, Code.isCreation, Code.isCaller, Code.cUnits])
/-- what the turns of the walk are to reach -/
def GxW (J : It) (g : TG) (te : TE) (σ0 : L2.St) (vs : List Nat) (endQ : Hp → Prop) (stopQ contQ : V → Hp → Prop) (W : Nat → Nat → Hp → Prop) : Prop := ∀ i m H, W i m H →
  (J.stop i H ∧ endQ H) ∨ (J.go i H ∧ 0 < m ∧ ∀ x H', J.yld i H x H' → g x σ0 H' fun σ2 H2 => wipe σ2 vs = σ0 ∧ te σ2 H2 fun y H3 => stopQ y H3 ∨ (contQ y H3 ∧ ∃ m', m' < m ∧ W (i + 1) m' H3))
theorem seg_gx {s3 : Shared} {H3 : Hp} {elt tg iter : Expr} {scope : Scope} {gpos : Pos} {cenv : PySem.Env} {fp : List Addr} {it : Addr} {tn : Nat → Heap → Prop} {J : It} {g : TG} {te : TE} {own : List (Str × Nat)} {a : Addr} {gob : Obj} {σ0 : L2.St}
    {endQ : Hp → Prop} {stopQ contQ : V → Hp → Prop} {W : Nat → Nat → Hp → Prop} {endP : Shared → Prop} {stopP contP : Value → Shared → Prop}
    (hc : X.calm = true) (hco : cenv.scope.isCoroutine = false) (T : Turn X.prog X.w X.K tg J fp it tn) (pg : PG (gxC X s3 H3 cenv fp) tg g) (pe : PE (gxC X s3 H3 cenv fp) elt te) (hw : GxW J g te σ0 (own.map (·.2)) endQ stopQ contQ W)
    (npin : a ∉ fp)
    (hEnd : ∀ σ' H' s', Inv (gxC X s3 H3 cenv fp) [(a, gob)] σ' H' s' → endQ H' → endP s')
    (hStop : ∀ σ' H' s' y v, Inv (gxC X s3 H3 cenv fp) [(a, gob)] σ' H' s' → RelV y v → stopQ y H' → stopP v s')
    (hCont : ∀ σ' H' s' y v, Inv (gxC X s3 H3 cenv fp) [(a, gob)] σ' H' s' → RelV y v → contQ y H' → contP v s') :
    ∀ (m n i : Nat) (H5 : Hp) (s0 s5 : Shared), m ≤ n → W i m H5 → Inv (gxC X s3 H3 cenv fp) [(a, gob)] σ0 H5 s5 → tn i s5.heap → (∀ b ∈ fp, H5 b = none) →
      Seg (model X.prog X.w) X.A.in1.in1 (gxR endP) (gxY stopP contP) n s0 (.compLoop (.GeneratorExp elt [⟨tg, iter, [], 0⟩] scope gpos) 0 (.ref it) .none cenv)
        ((model X.prog X.w).den (.compLoop (.GeneratorExp elt [⟨tg, iter, [], 0⟩] scope gpos) 0 (.ref it) .none cenv)) [] s5 := by
  have stat : ∀ {σ' : L2.St} {H' : Hp} {s' : Shared}, Inv (gxC X s3 H3 cenv fp) [(a, gob)] σ' H' s' → (∀ b ∈ fp, H' b = none) → ∀ b ∈ fp, FpOk (gxC X s3 H3 cenv fp) [(a, gob)] H' b := fun {σ' H' s'} I' hn b hb =>
    ⟨hn b hb, (I'.ok.exf b hb).1, I'.ok.exfs b hb, .inl hb, fun x c e => (I'.ok.exf b hb).2 x c e, fun p hp z => by
      have e := List.mem_singleton.mp (show p ∈ [(a, gob)] from hp)
      subst e
      exact npin (by rw [show a = b from z]; exact hb)⟩
  intro m
  induction m using Nat.strongRecOn with
  | ind m ih =>
    intro n i H5 s0 s5 hmn w5 I5 st5 n5
    show Seg _ _ _ _ n s0 _ ((compTurn (.GeneratorExp elt [⟨tg, iter, [], 0⟩] scope gpos) 0 (.ref it) .none cenv).onRaise (leaving cenv)) [] s5
    rw [compTurn_gen, Sem.onRaise_eq_wrap]
    refine seg_bind_wrap (wpAny_standAt ?_)
    rcases hw i m H5 w5 with ⟨stop, qq⟩ | ⟨go, hm0, step⟩
    · have td := T.done (gxC X s3 H3 cenv fp) rfl rfl rfl hc i [(a, gob)] s5 _ H5 (fun _ _ => False) I5 (stat I5 n5) st5 stop
      refine seg_bind_wrap ?_
      rw [over_gx]
      refine thnF td fun r s6 ⟨hr, I6⟩ => ?_
      subst hr
      exact seg_end (.ok .next) ⟨rfl, hEnd _ _ _ I6 qq⟩
    · have ti := T.item (gxC X s3 H3 cenv fp) rfl rfl rfl hc i [(a, gob)] s5 _ H5 (fun _ _ => False) I5 (stat I5 n5) st5 go
      refine seg_bind_wrap ?_
      rw [over_gx]
      refine thnF ti fun r s6 ⟨u, hr, h6⟩ => ?_
      subst hr
      refine seg_bind_wrap ?_
      rw [over_gx]
      refine thnF h6 fun _ s7 ⟨x, H7, I7, r7, y7, st7, n7⟩ => ?_
      have I7' := I7.pinned (stat I7 n7) (T.obj _ _ st7)
      refine seg_bind_wrap ?_
      rw [over_gx]
      refine thnF (pg.run _ s7 _ H7 x u _ I7' r7 (step x H7 y7)) fun _ s8 ⟨σ8, H8, I8, hw8, q8⟩ => ?_
      refine seg_bind_wrap (wpAny_pure ?_)
      simp only [if_true]
      have hy : ∀ v, yieldOut cenv v = yieldValue v := fun v => by simp only [yieldOut, hco, Bool.false_eq_true, if_false]
      simp only [hy]
      rw [Sem.bind_eq_wrap', Sem.bind_eq_wrap', Sem.wrap_wrap, Sem.wrap_wrap]
      refine seg_wrap ?_
      rw [over_gx]
      refine thnF (pe.run _ s8 σ8 H8 _ I8 q8) fun z s10 ⟨yv, H10, I10, r10, q10⟩ => ?_
      obtain ⟨n', rfl⟩ : ∃ n', n = n' + 1 := ⟨n - 1, by omega⟩
      refine seg_at (seg_yield rfl rfl rfl ?_)
      rcases q10 with q10 | ⟨q10, m', hm, w'⟩
      · exact Or.inl (hStop _ _ _ _ _ I10.unpinned r10 q10)
      · refine Or.inr ⟨hCont _ _ _ _ _ I10.unpinned r10 q10, fun s'' hs => ?_⟩
        obtain ⟨G, rfl, hG⟩ := hs
        have pin' : ∀ b ∈ fp, ∀ o, s7.heap.get? b = some o → s10.heap.get? b = some o ∧ H10 b = none := fun b hb o e =>
          let z := I10.pin (b, o) (List.mem_append_right _ (List.mem_append_right _ (mem_pinsAt hb e)))
          ⟨z.1, z.2.1⟩
        have hl : σ0.length = σ8.length := by rw [← hw8, wipe_length]
        refine seg_again rfl (ih m' hm n' (i + 1) H10 _ _ (by omega) w' ((gens_ok I10 hG).unpinned.weak hl (fun j v e => ?_)) (T.keep _ _ _ st7 fun b hb o e => (pin' b hb o e).1) fun b hb => ?_)
        · rw [← hw8] at e
          exact (wipe_some e).1
        · obtain ⟨o, e, _⟩ := T.obj _ _ st7 b hb
          exact (pin' b hb o e).2
theorem seg_gx0 {elt tg iter : Expr} {scope : Scope} {gpos : Pos} {cenv : PySem.Env} {fp : List Addr} {it : Addr} {tn : Nat → Heap → Prop} {J : It} {R : GenEnd} {Y : Protocol} {n : Nat} {s0 s5 : Shared} (T : Turn X.prog X.w X.K tg J fp it tn) (st5 : tn 0 s5.heap)
    (loop : Seg (model X.prog X.w) X.A.in1.in1 R Y n s0 (.compLoop (.GeneratorExp elt [⟨tg, iter, [], 0⟩] scope gpos) 0 (.ref it) .none cenv)
        ((model X.prog X.w).den (.compLoop (.GeneratorExp elt [⟨tg, iter, [], 0⟩] scope gpos) 0 (.ref it) .none cenv)) [] s5) :
    Seg (model X.prog X.w) X.A.in1.in1 R Y n s0 (.compStart (.GeneratorExp elt [⟨tg, iter, [], 0⟩] scope gpos) 0 (.ref it) .none cenv)
        ((model X.prog X.w).den (.compStart (.GeneratorExp elt [⟨tg, iter, [], 0⟩] scope gpos) 0 (.ref it) .none cenv)) [] s5 := by
  show Seg _ _ _ _ _ s0 _ ((compStart (.GeneratorExp elt [⟨tg, iter, [], 0⟩] scope gpos) 0 (.ref it) .none cenv).onRaise (leaving cenv)) [] s5
  unfold compStart
  rw [Sem.onRaise_eq_wrap]
  show Seg _ _ _ _ _ s0 _ ((ask >>= _).wrap _ _ _ _) [] s5
  refine seg_bind_wrap (wpAny_askSetting ?_)
  split
  · exact seg_again rfl loop
  · first
      | exact seg_bind_wrap (wpAny_rule (seg_bind_wrap (wpAny_standAt (seg_bind_wrap (T.self _ 0 s5 _ _ st5 (seg_again rfl loop))))))
      | (refine seg_bind_wrap (wpAny_rule ?_); show Seg _ _ _ _ _ s0 _ ((standAt iter.pos >>= _).wrap _ _ _ _) [] s5; exact seg_bind_wrap (wpAny_standAt (seg_bind_wrap (T.self _ 0 s5 _ _ st5 (seg_again rfl loop)))))
/-! ### the making of the generator -/
theorem gen_made {c P : Addr} {elt tg iter : Expr} {gpos : Pos} {scope : Scope} {own : List (Str × Nat)} {wi : TI} {k : Nat} {Q' : Value → Shared → Prop} {R : It → Hp → Prop}
    (hr : Room k X.A) (hN : X.N.Nodup) (TB : TabB X.base X.mg c P) (hcode : X.env.code = .ref c) (ok : GxOk X.N X.env.scope scope own) (hi : PI X tg iter wi)
    (hs : ∀ v, genFold iter X.env v = pure v) (I : Inv X pins σ H s) (h : wi σ H fun J H1 => TabG H1 P ∧ ∀ H2, Tabbed P H1 H2 → R J H2)
    (hQ : ∀ (J : It) (H2 : Hp) (s4 : Shared) (it : Addr) (fp : List Addr) (tn : Nat → Heap → Prop) (cenv : PySem.Env) (a : Addr) (gob : Obj) (h5 : Heap) (tk : Nat), R J H2 → Inv X pins σ H2 s4 → Turn X.prog X.w X.K tg J fp it tn → tn 0 h5 →
      (∀ b ∈ fp, FpOk X pins H2 b ∧ b < s4.heap.objs.size) → (∃ cl C code, cenv = genEnv scope cl C code builtinsNs X.env) → a ∉ fp → h5.IsGen a s4.gens.size → h5.get? a = some gob →
      (∀ G', AllBare G' → Inv (gxC X s4 H2 cenv fp) [(a, gob)] (wipe σ (own.map (·.2))) H2 { s4 with heap := h5, gens := G', toks := tk }) →
      Q' (.ref a) { s4 with gens := s4.gens.push (.fresh (.compStart (.GeneratorExp elt [⟨tg, iter, [], 0⟩] scope gpos) 0 (.ref it) .none cenv)), toks := tk, heap := h5 }) :
    wpAny (model X.prog X.w) X.A (eval (.GeneratorExp elt [⟨tg, iter, [], 0⟩] scope gpos) X.env) Q' X.xe s := by
  have hfree : ∀ y ∈ scope.names, y.2 = .free → ∃ c, X.env.cells.lookup y.1 = some c := fun y hy e => by
    rcases ok.free y hy e with k | k
    · exact I.ok.has _ (.inl k)
    · exact I.ok.has _ (.inr k)
  refine wpAny_GeneratorExp_make ok.co (closure_ok hfree) ok.cell ok.dot ok.kind (by have := hr.dp; omega) ?_ hs
  refine thn (hi.run pins s σ H _ I h) fun xv s1 hx => thn hx fun itv s2 h2 => ?_
  obtain ⟨it, fp, tn, J, H1, e, I2, T, st2, f2, ⟨ps, hP, ht⟩, q⟩ := h2
  subst e
  have hPs : s2.heap.get? P = some { cls := .none, data := .fields ps } := I2.hok P _ hP
  have hPlt : P < s2.heap.objs.size := Heap.lt_size hPs
  have cd : PySem.W.CodeHd s2.heap c P := TB.code.keeps I2.bk
  have nfP : ∀ b ∈ fp, b ≠ P := fun b hb z => by
    have := (f2 b hb).1
    rw [z, hP] at this
    cases this
  have szf : ∀ b ∈ fp, b < s2.heap.objs.size := fun b hb => by
    obtain ⟨o, e, _⟩ := T.obj _ _ st2 b hb
    exact Heap.lt_size e
  refine ⟨I2.nolimit, ?_⟩
  have cont : ∀ (code : Value) (h3 : Heap) (tk : Nat) (ps' : Array Value), Heap.ExtBut P s2.heap h3 → s2.heap.objs.size ≤ h3.objs.size → h3.get? P = some { cls := .none, data := .fields ps' } → (∃ more, ps' = ps ++ more) → TriplesOk ps'.toList →
      wpAny (model X.prog X.w) X.A (builtinsFor X.env.globals X.env.builtins) (fun bi s₄ => ∀ h', h'.Ns s₄.heap.objs.size (fun y => if y = ".0" then some (.ref it) else none) → Heap.SameBut s₄.heap.objs.size (s₄.heap.push { cls := .type "frame", data := .dict #[] }) h' →
          Q' (.ref h'.objs.size) { s₄ with
            gens := s₄.gens.push (.fresh (.compStart (.GeneratorExp elt [⟨tg, iter, [], 0⟩] scope gpos) 0 (.ref it) .none (genEnv scope (cloFrom X.env.cells scope.names []) s₄.heap.objs.size code bi X.env))),
            toks := s₄.toks + 1 + 1 + 1,
            heap := h'.push { cls := .type "generator", data := .fields #[.int s₄.gens.size 0, .str "<genexpr>" (s₄.toks + 1), .str (X.env.qual ++ "<genexpr>") (s₄.toks + 1 + 1)] } }) X.xe { s2 with heap := h3, toks := tk } := by
    intro code h3 tk ps' hx hsz hP3 hmore ht3
    obtain ⟨bm, ob, e1, e2, e3, e4, e5, e6, e7, e8⟩ := TB.bm
    have keep3 : ∀ b u, b ≠ P → s2.heap.get? b = some u → h3.get? b = some u := fun b u hb e => hx b u hb e
    refine wpAny_builtinsFor (m := X.mg) (by rw [I2.ok.glob]; exact (I2.mod.glob.keeps I2.bk).extBut hx TB.gP) e1 e2 (keep3 _ _ e4 (I2.bk _ _ e5)) e6 e7 e8 ?_
    intro h' hn' hs'
    obtain ⟨more, em⟩ := hmore
    subst em
    have J4 := inv_tab (more := more) (h' := h3) (g' := s2.gens) (d' := s2.drawn) (t' := tk) I2 hP keep3 hP3 I2.bare
    have hTb : Tabbed P H1 (upd H1 P (.tbl (ps ++ more))) := ⟨⟨ps ++ more, upd_same, ht3⟩, fun b hb => upd_ne hb⟩
    have hfp4 : ∀ b ∈ fp, FpOk X pins (upd H1 P (.tbl (ps ++ more))) b ∧ b < h3.objs.size := fun b hb => ⟨⟨by rw [upd_ne (nfP b hb)]; exact (f2 b hb).1, (f2 b hb).2⟩, Nat.lt_of_lt_of_le (szf b hb) hsz⟩
    have hsz' : h'.objs.size = h3.objs.size + 1 := by rw [hs'.1, Heap.size_push]
    have kp : ∀ b o, h3.get? b = some o → (h'.push { cls := .type "generator", data := .fields #[.int s2.gens.size 0, .str "<genexpr>" (tk + 1), .str (X.env.qual ++ "<genexpr>") (tk + 1 + 1)] }).get? b = some o := fun b o e => Heap.get?_push_of_some _ (hs'.extBut b o (Nat.ne_of_lt (Heap.lt_size e)) (Heap.get?_push_of_some _ e))
    refine hQ J (upd H1 P (.tbl (ps ++ more))) { s2 with heap := h3, toks := tk } it fp tn (genEnv scope (cloFrom X.env.cells scope.names []) h3.objs.size code builtinsNs X.env) h'.objs.size _ _ _ (q _ hTb) J4 T
      (T.keep _ _ _ st2 fun b hb o e => kp b o (keep3 b o (nfP b hb) e)) hfp4 ⟨_, _, _, rfl⟩ (fun hb => by have z : (h'.objs.size : Nat) < h3.objs.size := (hfp4 _ hb).2; omega) ⟨_, _, _, Heap.get?_push_size _ rfl, rfl, rfl, rfl⟩ (Heap.get?_push_size _ rfl) fun G' hG => ?_
    exact gx_start J4 ok hN hfp4 hn' hs' (fun v z => by cases z) rfl hG rfl
  cases hf : codeAmong gpos ps.toList with
  | none =>
    refine wpAny_genexprCodeX hcode (cd.code hPs ht) (cd.tab hPs) hf fun c' h' tk hx hge hlt hco' _ htab' _ => ?_
    obtain ⟨o1, vs, f1, tf, fl, tg', inF, tx, tt, op, _, _, _, _, _, _, _, _, _, htr, _⟩ := hco'
    exact cont _ h' tk _ hx (Nat.le_trans hge (Nat.le_of_lt hlt)) htab'.2 ⟨_, rfl⟩ htr
  | some cv =>
    refine wpAny_genexprCode_hit hcode (cd.code hPs ht) hf ?_
    exact cont cv s2.heap s2.toks ps (Heap.ExtBut.refl _ _) (Nat.le_refl _) hPs ⟨#[], by simp⟩ ht
/-! ### all -/
theorem bare_set {s : Shared} {g : Nat} {x : GenState} (h : AllBare s.gens) (hx : x.bare = true) : AllBare (s.setGen g x).gens := fun y hy => by
  have hy : y ∈ s.gens.setIfInBounds g x := hy
  rcases Array.mem_or_eq_of_mem_setIfInBounds hy with z | z
  · exact h y z
  · rw [z]; exact hx
theorem next_gx {P : Program} {w : World} {A : Around} {a : Addr} {g n : Nat} {gs : GenState} {endP : Shared → Prop} {stopP contP : Value → Shared → Prop} {Q : Option Value → Shared → Prop} {E : Value → Shared → Prop} {s : Shared}
    (hh : A.handled = none) (hroom : A.depth < recursionLimit) (hgn : s.heap.IsGen a g) (hl : s.heap.NoLimit) (hgs : s.gens[g]? = some gs) (hb : AllBare s.gens)
    (hgo : ∀ s'', Slp s s'' → gs.Goes (model P w) A.in1 (gxR endP) (gxY stopP contP) n (.send .none) s'')
    (hE : ∀ s1 h' G, endP s1 → (∀ b o, s1.heap.get? b = some o → h'.get? b = some o) → (AllBare s1.gens → AllBare G) → Q none { s1 with heap := h', gens := G })
    (hS : ∀ v s1 G, stopP v s1 → (AllBare s1.gens → AllBare G) → Q (some v) { s1 with gens := G })
    (hC : ∀ v s1 gs' G n', contP v s1 → n = n' + 1 → (AllBare s1.gens → AllBare G) → G[g]? = some gs' → (∀ s'', Slp s1 s'' → gs'.Goes (model P w) A.in1 (gxR endP) (gxY stopP contP) n' (.send .none) s'') → Q (some v) { s1 with gens := G }) :
    wpAny (model P w) A (pyNext (.ref a)) Q E s := by
  have hlt : g + 1 ≤ s.gens.size := (Array.getElem?_eq_some_iff.mp hgs).1
  refine GenW.wpAny_gsz hlt ?_
  refine wpAny_pyNext_genexpQ (n := n) (P := fun _ _ s₁ => endP s₁) (Y := gxY stopP contP) hh hl hroom hgn hgs (hgo _ ⟨_, rfl, bare_set hb rfl⟩) (fun v s₁ gs' hbr hv hsz => ?_) (fun s₁ hp h' hk _ => ?_)
  · have hsz : g + 1 ≤ s₁.gens.size := by
      have := hsz
      rw [GenW.setGen_size] at this
      exact this
    have hat : (s₁.setGen g gs').gens[g]? = some gs' := by
      show (s₁.gens.setIfInBounds g gs')[g]? = some gs'
      rw [Array.getElem?_setIfInBounds_self_of_lt (by omega)]
    rcases hv with hv | ⟨hv, hk⟩
    · exact hS v s₁ _ hv fun z => bare_set z hbr
    · cases n with
      | zero => exact (hk _ ⟨#[], rfl, AllBare.empty⟩).elim
      | succ n' => exact hC v s₁ gs' _ n' hv rfl (fun z => bare_set z hbr) hat hk
  · exact hE s₁ h' _ hp hk fun z => bare_set z rfl
theorem all_loop {P : Program} {w : World} {A : Around} {a : Addr} {g : Nat} {endP stopP : Shared → Prop} {Rr : Result → Shared → Prop}
    (hh : A.handled = none) (hroom : A.depth < recursionLimit)
    (hE : ∀ s1 h' G, endP s1 → (∀ b o, s1.heap.get? b = some o → h'.get? b = some o) → (AllBare s1.gens → AllBare G) → Rr (.ok (.ret (.bool true))) { s1 with heap := h', gens := G })
    (hS : ∀ s1 G, stopP s1 → (AllBare s1.gens → AllBare G) → Rr (.ok (.ret (.bool false))) { s1 with gens := G }) :
    ∀ (n : Nat) (s : Shared) (gs : GenState), s.heap.IsGen a g → s.heap.NoLimit → s.gens[g]? = some gs → AllBare s.gens →
      (∀ s'', Slp s s'' → gs.Goes (model P w) A.in1.in1 (gxR endP) (gxY (fun v s => v = .bool false ∧ stopP s) (fun v s => v = .bool true ∧ s.heap.IsGen a g ∧ s.heap.NoLimit ∧ AllBare s.gens)) n (.send .none) s'') →
      codeAny (model P w) A (.builtin "all.loop" ⟨[.ref a], []⟩) Rr s := by
  intro n
  induction n with
  | zero =>
    intro s gs h1 h2 h3 h4 hgo
    refine codeAny_builtin F.entry_all_loop ?_
    rw [Around.under_plainId F.plain_all_loop _]
    show wpAny _ A.in1 (pyNext (.ref a) >>= _) _ _ s
    refine wpAny_bind (next_gx (A := A.in1) hh hroom h1 h2 h3 h4 hgo (fun s1 h' G e k b => ?_) (fun v s1 G e b => ?_) (fun v s1 gs' G n' e z => nomatch z))
    · exact wpAny_bind (wpAny_rule (wpAny_pure (hE s1 h' G e k b)))
    · obtain ⟨rfl, e⟩ := e
      refine wpAny_bind (wpAny_holding (wpAny_truthy_bool ?_))
      refine wpAny_bind (wpAny_letGo ?_)
      simp only [Bool.false_eq_true, if_false]
      exact wpAny_bind (wpAny_rule (wpAny_pure (hS s1 G e b)))
  | succ n ih =>
    intro s gs h1 h2 h3 h4 hgo
    refine codeAny_builtin F.entry_all_loop ?_
    rw [Around.under_plainId F.plain_all_loop _]
    show wpAny _ A.in1 (pyNext (.ref a) >>= _) _ _ s
    refine wpAny_bind (next_gx (A := A.in1) hh hroom h1 h2 h3 h4 hgo (fun s1 h' G e k b => ?_) (fun v s1 G e b => ?_) (fun v s1 gs' G n' e z b hg' hgo' => ?_))
    · exact wpAny_bind (wpAny_rule (wpAny_pure (hE s1 h' G e k b)))
    · obtain ⟨rfl, e⟩ := e
      refine wpAny_bind (wpAny_holding (wpAny_truthy_bool ?_))
      refine wpAny_bind (wpAny_letGo ?_)
      simp only [Bool.false_eq_true, if_false]
      exact wpAny_bind (wpAny_rule (wpAny_pure (hS s1 G e b)))
    · obtain ⟨rfl, e1, e2, e3⟩ := e
      cases z
      refine wpAny_bind (wpAny_holding (wpAny_truthy_bool ?_))
      refine wpAny_bind (wpAny_letGo ?_)
      simp only [if_true]
      exact wpAny_pure ⟨plainId_quiet F.plain_all_loop _, ih _ gs' e1 e2 hg' (b e3) fun s'' ⟨G2, e, hG2⟩ => hgo' s'' ⟨G2, e, hG2⟩⟩
/-- all(elt for tg in iter) -/
def tAllG (P : Addr) (wi : TI) (g : TG) (te : TE) (vs : List Nat) : TE := fun σ H Q => wi σ H fun J H1 => TabG H1 P ∧ ∀ H2, Tabbed P H1 H2 → ∃ W : Nat → Nat → Hp → Prop, (∃ m, W 0 m H2) ∧
  GxW J g te (wipe σ vs) vs (fun H => Q (.bl true) H) (fun y H => y = .bl false ∧ Q (.bl false) H) (fun y _ => y = .bl true) W
theorem pe_allG {c P : Addr} {elt tg iter : Expr} {p pos gpos : Pos} {scope : Scope} {own : List (Str × Nat)} {wi : TI} {g : TG} {te : TE} {k : Nat} (hc : X.calm = true) (hN : X.N.Nodup)
    (hr : Room k X.A) (hgl : Gl X "all") (hm : X.mg "all" = none) (TB : TabB X.base X.mg c P) (hcode : X.env.code = .ref c) (ok : GxOk X.N X.env.scope scope own) (hi : PI X tg iter wi)
    (hg : ∀ (s : Shared) (H : Hp) (cl : List (Str × Addr)) (C : Addr) (cd : Value) (fp : List Addr), PG (gxC X s H (genEnv scope cl C cd builtinsNs X.env) fp) tg g) (he : ∀ (s : Shared) (H : Hp) (cl : List (Str × Addr)) (C : Addr) (cd : Value) (fp : List Addr), PE (gxC X s H (genEnv scope cl C cd builtinsNs X.env) fp) elt te)
    (hs : ∀ v, genFold iter X.env v = pure v := by intro _; rfl) (hb : bootBuiltins "all" = some (.builtin "all") := by decide +kernel)
    (hst : starEach [.GeneratorExp elt [⟨tg, iter, [], 0⟩] scope gpos] X.env = (false, eval (.GeneratorExp elt [⟨tg, iter, [], 0⟩] scope gpos) X.env) :: starEach [] X.env := by rfl) :
    PE X (.Call (.Name "all" p) [.GeneratorExp elt [⟨tg, iter, [], 0⟩] scope gpos] [] pos) (tAllG P wi g te (own.map (·.2))) := by
  refine ⟨fun pins s σ H Q I h => ?_⟩
  refine wpAny_Call_Name_kw (ld_blt I hgl hm hb ?_)
  refine PyProof.Rows.callWith_builtin1 ?_ hst (by rfl)
  rw [hst]
  show wpAny _ _ (spliced ((false, eval (.GeneratorExp elt [⟨tg, iter, [], 0⟩] scope gpos) X.env) :: backTo pos (starEach [] X.env))) _ _ s
  refine Calls.spliced_cons (gen_made hr hN TB hcode ok hi hs I h fun J H2 s4 it fp tn cenv a gob h5 tk hR I4 T st5 hfp hsc naf hgen hat hI => ?_)
  obtain ⟨cl, C, cd, hce⟩ := hsc
  have pg := hg s4 H2 cl C cd fp
  have pe := he s4 H2 cl C cd fp
  rw [← hce] at pg pe
  obtain ⟨W, ⟨m0, w0⟩, hW⟩ := hR
  refine Calls.spliced_nil ?_
  refine call_function_tree F.kind_all F.plain_all F.entry_all (F.args_all1 _) ?_
  unfold Builtin.«all»
  refine wpAny_bind (m := oneArg "all" _) (wpAny_pure ?_)
  refine wpAny_bind (wpAny_pyIter_gen hgen ?_)
  have I5 := hI s4.gens I4.bare
  have back : ∀ {σ' : L2.St} {H' : Hp} {s' : Shared}, Inv (gxC X s4 H2 cenv fp) [(a, gob)] σ' H' s' → Inv X pins σ H' s' := fun {σ' H' s'} I6 =>
    I4.call' (ch := fp) I6.os I6.base I6.hok I6.bare fun b hb => ⟨(hfp b hb).1.2.2.2.1, (hfp b hb).1.2.1, (hfp b hb).1.2.2.2.2.1, (hfp b hb).1.2.2.2.2.2⟩
  refine wpAny_pure ⟨plainId_quiet F.plain_all_loop _, all_loop (endP := fun s1 => ∃ H', Inv X pins σ H' s1 ∧ Q (.bl true) H') (stopP := fun s1 => ∃ H', Inv X pins σ H' s1 ∧ Q (.bl false) H') (a := a) (g := s4.gens.size) hr.hd (by have := hr.dp; show X.A.depth < _; omega) ?_ ?_ m0 _ _ hgen I5.nolimit (Array.getElem?_push_size ..) (I4.bare.push rfl) fun s'' hs'' => ⟨rfl, ?_⟩⟩
  · intro s1 h' G ⟨H', I6, q⟩ hk hG
    exact ⟨.bl true, H', gens_ok (I6.kept (t' := s1.toks) hk) (hG I6.bare), rfl, q⟩
  · intro s1 G ⟨H', I6, q⟩ hG
    exact ⟨.bl false, H', gens_ok I6 (hG I6.bare), rfl, q⟩
  · obtain ⟨G, rfl, hG⟩ := hs''
    refine seg_gx0 T st5 (seg_gx (own := own) hc (by rw [hce]; exact ok.co) T pg pe hW naf (fun σ' H' s' I6 q => ⟨H', back I6, q⟩) (fun σ' H' s' y v I6 r ⟨e, q⟩ => ?_) (fun σ' H' s' y v I6 r e => ?_) m0 m0 0 H2 _ _ (Nat.le_refl _) w0 (hI G hG) st5 fun b hb => (hfp b hb).1.1)
    · subst e
      have e9 := (I6.pin (a, gob) (by simp)).1
      obtain ⟨o, nm, qn, e1, e2⟩ := hgen
      have e1 : h5.get? a = some o := e1
      rw [hat] at e1
      cases e1
      exact ⟨r, ⟨gob, nm, qn, e9, e2⟩, I6.nolimit, I6.bare⟩
    · subst e
      exact ⟨r, H', back I6, q⟩
end
end Q
set_option Elab.async false
set_option linter.all false
set_option maxRecDepth 100000
set_option maxHeartbeats 2000000
namespace Q
open PySem PySem.Spec PyProof.Rows L2
variable [TbS]
section
variable {K : PySem.W.Frag}
/-! ### zip of two lists or two tuples -/
def dZipA (f : FDs) : ID := fun r => (f r).bind fun p => match p.1 with
  | [.lst a, .lst b] => some (zipD a b, p.2)
  | [.tup a, .tup b] => some (zipD a b, p.2)
  | _ => none
/-! ### t < u, tuples of whole numbers -/
def gLtT : List D → Option Rs
  | [.tup a, .tup b] => (intsD a).bind fun ns => (intsD b).bind fun ms => some (.val (.bl (HT.lexLt ns ms)))
  | _ => none
/-! ### all(..) -/
theorem SI.tabbed {F : Fx} {G H H2 : Hp} {r : List T} {x : List (Option V)} {P : Addr} (I : SI K F G H r x) (hP : TbS.tb P) (hT : GxR.Tabbed P H H2) : SI K F G H2 r x := by
  obtain ⟨f, hr, hf⟩ := I.own
  have ne : ∀ a, ¬ TbS.tb a → H2 a = H a := fun a t => hT.2 a fun z => t (by rw [z]; exact hP)
  have nG : ∀ a o, G a = some o → ¬ TbS.tb a := fun a o e t => by rw [I.gtb a t] at e; cases e
  have tb : ∀ a, TbS.tb a → GxR.TabG H2 a := fun a t => by
    by_cases c : a = P
    · rw [c]; exact hT.1
    · obtain ⟨ps, q, z⟩ := I.tab a t
      exact ⟨ps, by rw [hT.2 a c]; exact q, z⟩
  refine I.nextT f hf (Ex.refl G) (fun a o e => ?_) I.pl (fun a o e _ t => by rw [ne a t]; exact e) tb (fun a h => ?_) (fun a o e => Or.inl e) (hr.frame (Ex.refl G) fun b hb => ne b (hf b hb).2.2.2) (fun b hb => ⟨(hf b hb).1, by rw [ne b (hf b hb).2.2.2]; exact (hf b hb).2.1, Or.inl hb⟩)
  · rw [ne a (nG a o e)]; exact I.gh a o e
  · by_cases t : TbS.tb a
    · obtain ⟨ps, q, _⟩ := tb a t
      rw [q]; exact Option.some_ne_none _
    · rw [ne a t]; exact h
def allD (h : GD) (e : FD) (own : List Nat) : List D → Env → Option (Bool × Env)
  | [], r => some (true, r)
  | d :: l, r => (h (wipeT r own) (.fz d)).bind fun r1 => (e r1).bind fun p => match p.1 with
    | .bl true => allD h e own l p.2
    | .bl false => some (false, p.2)
    | _ => none
def dAllG (f : ID) (h : GD) (e : FD) (own : List Nat) : ED := fun r => (f r).bind fun p => (allD h e own p.1 p.2).bind fun q => some (.sh (.bl q.1), restore p.2 own q.2)
theorem gx_end {F : Fx} {G0 G' H0 H' : Hp} {r0 r' : Env} {s σ' : L2.St} {tm : List T} {us : List (Option V)} {own : List Nat} (I0 : SI K F G0 H0 (r0 ++ tm) (s ++ us)) (l0 : r0.length = s.length) (xg : Ex G0 G') (I : SI K F G' H' (r' ++ tm) (σ' ++ us)) (hl : r'.length = σ'.length) (w : wipe σ' own = wipe s own) :
    SI K F G' H' (restore r0 own r' ++ tm) (s ++ us) ∧ (restore r0 own r').length = s.length := by
  obtain ⟨f, hr, _⟩ := I0.own
  obtain ⟨g1, _, k1, _⟩ := hr.split l0
  have J := I.restored hl k1 xg own
  rw [resV_get (wipe_len w) fun i c => of_wipe w c] at J
  exact ⟨J, by rw [restore_len, hl, wipe_len w]⟩
theorem de_allG {P : Addr} {wi : TI} {g : TG} {te : TE} {f : ID} {h : GD} {e : FD} {own : List Nat} (hP : TbS.tb P) (hi : DI K wi f) (hg : DG K (fun i => own.contains i) g h) (he : DF K te e) : DE K (tAllG P wi g te own) (dAllG f h e own) := fun F G H r s tm us w r' I hl ee Q q => by
  obtain ⟨⟨l, r1⟩, e1, ee⟩ := Option.bind_eq_some_iff.mp ee
  obtain ⟨⟨bb, r2⟩, e2, ee⟩ := Option.bind_eq_some_iff.mp ee
  cases ee
  refine hi F G H r s tm us l r1 I hl e1 _ fun J G1 H1 x1 I1 l1 hJ => ⟨I1.tab P hP, fun H2 hT => ?_⟩
  have I2 := I1.tabbed hP hT
  have fin : ∀ G' H' σ' r', Ex G1 G' → SI K F G' H' (r' ++ tm) (σ' ++ us) → r'.length = σ'.length → wipe σ' own = wipe s own → r' = r2 → Q (.bl bb) H' := fun G' H' σ' r' xg I3 l3 w3 er => by
    subst er
    obtain ⟨J3, m3⟩ := gx_end I1 l1 xg I3 l3 w3
    exact q _ G' H' (x1.trans xg) (by simpa only [W.tm, W.vl, List.append_nil] using J3) m3 (.bl bb)
  refine ⟨fun i m H' => i ≤ l.length ∧ m = l.length - i ∧ ∃ G' rr σ1, Ex G1 G' ∧ SI K F G' H' (rr ++ tm) (σ1 ++ us) ∧ rr.length = σ1.length ∧ wipe σ1 own = wipe s own ∧ allD h e own (l.drop i) rr = some (bb, r2), ⟨l.length, Nat.zero_le _, rfl, G1, r1, s, Ex.refl G1, I2, l1, rfl, e2⟩, ?_⟩
  rintro i m H3 ⟨hi, rfl, G3, r3, σ3, x3, I3, l3, w3, e3⟩
  by_cases c : i < l.length
  · have hd : l[i]? = some l[i] := List.getElem?_eq_getElem c
    obtain ⟨go, yl⟩ := (hJ F G3 H3 _ _ x3 I3 i).1 _ hd
    rw [List.drop_eq_getElem_cons c] at e3
    obtain ⟨r4, e4, e5⟩ := Option.bind_eq_some_iff.mp (show (h (wipeT r3 own) (.fz l[i])).bind _ = _ from e3)
    obtain ⟨⟨d, r5⟩, e6, e7⟩ := Option.bind_eq_some_iff.mp e5
    refine Or.inr ⟨go, by omega, fun x H4 y => ?_⟩
    obtain ⟨G4, x4, I4, q4⟩ := yl x H4 y
    have J2 := I4.wiped l3 own
    rw [w3] at J2
    have lw : (wipeT r3 own).length = (wipe s own).length := by rw [wipeT_len, wipe_length, l3, wipe_len w3]
    have J3 : SI K F G4 H4 (wipeT r3 own ++ (.fz l[i]) :: tm) (wipe s own ++ some x :: us) := by
      obtain ⟨ff, hr, hf⟩ := J2.own
      obtain ⟨g1, g2, k1, k2, k3, k4, k5⟩ := hr.split lw
      have m : RtL K G4 H4 (.fz l[i] :: tm) (some x :: us) g2 := .cons (g := fun _ => False) (.fz q4) k2 (fun b hb => hb.elim) (fun b hb => hb) (fun b hb => hb.elim)
      exact J2.same hf (m.app k1 k5) fun b hb => hb.elim (k3 b) (k4 b)
    refine hg F (fun j => if own.contains j then none else (wipe s own)[j]?) G4 H4 _ _ (.fz l[i]) x _ _ r4 (fun j hj => by rw [if_pos hj]) J3 lw (fun j v hv => ?_) e4 _ fun s5 G5 H5 x5 I5 l5 m5 p5 => ?_
    · dsimp only at hv
      split at hv
      · cases hv
      · exact hv
    have w5 : wipe s5 own = wipe s own := by
      rw [← wipe_idem (s := s)]
      refine wipe_same m5 fun j cj => ?_
      by_cases hj : j < (wipe s own).length
      · rw [List.getElem?_eq_getElem hj]
        exact p5 j _ (by dsimp only; rw [if_neg (by simpa using cj), List.getElem?_eq_getElem hj])
      · rw [List.getElem?_eq_none (by omega), List.getElem?_eq_none (by omega)]
    refine ⟨w5, ?_⟩
    have xx := (x3.trans x4).trans x5
    refine he F G5 H5 r4 s5 _ _ d r5 I5 l5 e6 _ fun v G6 H6 x6 I6 l6 q6 => ?_
    dsimp only at e7
    split at e7
    · cases q6
      exact Or.inr ⟨rfl, l.length - (i + 1), by omega, c, rfl, G6, r5, s5, xx.trans x6, I6, l6, w5, e7⟩
    · cases e7
      cases q6
      exact Or.inl ⟨rfl, fin G6 H6 s5 _ (xx.trans x6) I6 l6 w5 rfl⟩
    · cases e7
  · have ei : i = l.length := by omega
    subst ei
    rw [List.drop_length] at e3
    cases e3
    exact Or.inl ⟨(hJ F G3 H3 _ _ x3 I3 l.length).2 (Nat.le_refl _), fin G3 H3 σ3 _ x3 I3 l3 w3 rfl⟩
end
/-! ### what is written of a generator expression's scope -/
def gxB (N : List Str) (sc scope : Scope) (own : List (Str × Nat)) : Bool :=
  (match scope.kind with | .function => true | _ => false) && !scope.isCoroutine && decide (scope.names.lookup (".0" : Str) = some NameKind.local) && (own.all fun p => decide (N[p.2]? = some p.1)) &&
    (scope.names.all fun y => match y.2 with
      | .free => (match sc.names.lookup y.1 with | some .cell => true | some .free => true | _ => false)
      | .local => decide (y.1 ∈ own.map (·.1)) || decide (y.1 ∉ N)
      | .cell => false
      | _ => true)
theorem gxOk_by {N : List Str} {sc scope : Scope} {own : List (Str × Nat)} (h : gxB N sc scope own = true) : GxOk N sc scope own := by
  unfold gxB at h
  simp only [Bool.and_eq_true, List.all_eq_true, decide_eq_true_eq, Bool.not_eq_true'] at h
  obtain ⟨⟨⟨⟨h1, h2⟩, h3⟩, h4⟩, h5⟩ := h
  refine ⟨?_, h2, fun y hy e => ?_, h3, h4, fun y hy e => ?_, fun y hy e => ?_⟩
  · split at h1
    · assumption
    · cases h1
  · have q := h5 y hy
    simp only [e] at q
    cases q
  · have q := h5 y hy
    simp only [e] at q
    split at q <;> first | exact Or.inl (by assumption) | exact Or.inr (by assumption) | cases q
  · have q := h5 y hy
    simp only [e, Bool.or_eq_true, decide_eq_true_eq] at q
    exact q
end Q
set_option Elab.async false
set_option linter.all false
set_option maxRecDepth 100000
set_option maxHeartbeats 2000000
namespace Q
open PySem PySem.Spec PyProof.Rows L2
/-! ### the end of a law whose defs have tables -/
abbrev tab0 : Obj := { cls := .none, data := .fields #[] }
open Classical in
/-- the caller's heap knows the script and the tables -/
noncomputable def startH (K : PySem.W.Frag) (cs : List (Addr × Addr)) (a : Addr) (vs : List Value) (ns : List Int) : Hp := fun b => if b ∈ cs.map (·.2) then some (.tbl #[]) else scriptH K a vs ns b
theorem startH_some {K : PySem.W.Frag} {cs : List (Addr × Addr)} {a b : Addr} {vs : List Value} {ns : List Int} {o : HO} (h : startH K cs a vs ns b = some o) :
    (b ∈ cs.map (·.2) ∧ o = .tbl #[]) ∨ (b ∉ cs.map (·.2) ∧ b = a ∧ K.lookup a = none ∧ o = .frz { cls := .type "list", data := .seq vs.toArray } (.lst (ns.map V.int))) := by
  unfold startH at h
  split at h
  · rename_i c; cases h; exact Or.inl ⟨c, rfl⟩
  · rename_i c; exact Or.inr ⟨c, scriptH_some h⟩
theorem law_gT {P : Program} {w : World} {K : PySem.W.Frag} {mg mb : Str → Option Value} {k : Nat} {fa a : Addr} {fd : FuncData} {x : Str} {sp : Sp} {s1 : Shared} {vs : List Value} {ns : List Int} {cs : List (Addr × Addr)}
    (KX : K.In s1.heap) (hns : s1.heap.Ns mainGlobals mg) (hb : s1.heap.Ns builtinsNs mb) (hbb : ∀ y : Str, y ≠ "__name__" → mb y = bootBuiltins y) (hlim : s1.heap.NoLimit) (hg : s1.gens = #[])
    (hT : ∀ p ∈ cs, s1.heap.get? p.2 = some tab0) (nT : ∀ p ∈ cs, K.lookup p.2 = none) (C : ∀ p ∈ cs, PySem.W.CodeHd s1.heap p.1 p.2)
    (hbm : ∃ (bm : Addr) (ob : Obj), mg "__builtins__" = some (.ref bm) ∧ bm ≠ builtinsNs ∧ s1.heap.get? bm = some ob ∧ ob.cls = .type "module" ∧ ob.dict = some builtinsNs ∧ ob.data = .plain)
    (ha : s1.heap.get? a = some { cls := .type "list", data := .seq vs.toArray }) (hi : IntsAre vs ns) (hl : ns.length ≤ sizeLine) (hr : Room k callerA)
    (F : ∀ base : Heap, K.In base → base.Ns mainGlobals mg → (∀ p ∈ cs, GxR.TabB base mg p.1 p.2) → FnG P w K mg base k fa fd [x] sp) (hbind : ∀ (s : Shared) (u : Value), BindsTo s fd ⟨[u], []⟩ [(x, u)])
    (hsp : ∀ H : Hp, (∀ p ∈ cs, H p.2 = some (.tbl #[])) → SqL K H a (ns.map V.int) → sp [.ref a] H (fun v _ => v = .bl true) fun _ _ _ => False) :
    codeAny (model P w) callerA (.call (.ref fa) ⟨[.ref a], []⟩) (fun r s' => r = .ok (.ret (.bool true)) ∧ OldK s1.heap s'.heap ∧ s'.os = s1.os ∧ AllBare s'.gens) s1 := by
  have rv := vals_ints hi
  have lenV := hi.length
  have tabs : ∀ b, b ∈ cs.map (·.2) → s1.heap.get? b = some tab0 ∧ K.lookup b = none := fun b hb => by
    obtain ⟨p, hp, rfl⟩ := List.mem_map.mp hb
    exact ⟨hT p hp, nT p hp⟩
  have na : a ∉ cs.map (·.2) := fun z => by
    have q := (tabs a z).1
    rw [ha] at q
    exact nomatch (congrArg Obj.data (Option.some.inj q) : Data.seq vs.toArray _ = Data.fields #[])
  generalize hH : startH K cs a vs ns = H
  have known : ∀ {b : Addr} {o : HO}, H b = some o → (b ∈ cs.map (·.2) ∧ o = .tbl #[]) ∨ (b ∉ cs.map (·.2) ∧ b = a ∧ K.lookup a = none ∧ o = .frz { cls := .type "list", data := .seq vs.toArray } (.lst (ns.map V.int))) := fun {b o} e => by
    rw [← hH] at e
    exact startH_some e
  have ht : ∀ b, b ∈ cs.map (·.2) → H b = some (.tbl #[]) := fun b hb => by
    rw [← hH]; unfold startH; rw [if_pos hb]
  have ok : HOk P w H s1.heap := fun b o e => by
    rcases known e with ⟨z, rfl⟩ | ⟨_, rfl, _, rfl⟩
    · exact (tabs b z).1
    · exact ⟨ha, List.length_map (f := V.int) ▸ hl, vs, _, rv, ha⟩
  have sq : SqL K H a (ns.map V.int) := by
    cases c : K.lookup a with
    | none => exact Or.inl (Or.inr ⟨_, by rw [← hH]; unfold startH scriptH; rw [if_neg na, if_pos ⟨rfl, c⟩]⟩)
    | some o =>
      have z := KX a o c
      rw [ha] at z
      cases z
      exact Or.inr ⟨_, vs.toArray, _, c, rfl, rfl, rfl, by rw [List.size_toArray, lenV]; exact hl, by simpa using rv⟩
  -- what is neither a list nor a table is not known
  have out : ∀ {b : Addr} {o : Obj}, s1.heap.get? b = some o → (∀ us n, o.data ≠ .seq us n) → o.data ≠ .fields #[] → H b = none := fun {b o} e h1 h2 => by
    cases q : H b with
    | none => rfl
    | some u =>
      rcases known q with ⟨z, _⟩ | ⟨_, rfl, _, _⟩
      · rw [(tabs b z).1] at e
        cases e
        exact absurd rfl h2
      · rw [ha] at e
        cases e
        exact absurd rfl (h1 _ _)
  have names : ∀ {b : Addr} {m : Str → Option Value}, s1.heap.Ns b m → (hidT s1.heap H).Ns b m := fun {b m} ⟨o, es, ep, e, d, z⟩ =>
    ⟨o, es, ep, hidT_get e (out e (fun us n y => by rw [d] at y; cases y) fun y => by rw [d] at y; cases y), d, z⟩
  have kin : K.In (hidT s1.heap H) := fun b o e => hidT_get (KX b o e) (by
    cases q : H b with
    | none => rfl
    | some u =>
      rcases known q with ⟨z, _⟩ | ⟨_, rfl, z, _⟩
      · rw [(tabs b z).2] at e; cases e
      · rw [e] at z; cases z)
  have TB : ∀ p ∈ cs, GxR.TabB (hidT s1.heap H) mg p.1 p.2 := fun p hp => by
    obtain ⟨o, us, fl, tf, fg, tg, inF, tx, tt, e1, e2, e3, e4, er⟩ := C p hp
    obtain ⟨bm, ob, b1, b2, b3, b4, b5, b6⟩ := hbm
    refine ⟨⟨o, us, fl, tf, fg, tg, inF, tx, tt, hidT_get e1 (out e1 (fun vs n z => by rw [e3] at z; cases z) fun z => ?_), e2, e3, e4, er⟩, ⟨bm, ob, b1, b2, fun z => ?_, fun z => ?_, hidT_get b3 (out b3 (fun vs n z => by rw [b6] at z; cases z) fun z => by rw [b6] at z; cases z), b4, b5, b6⟩, fun z => ?_⟩
    · rw [e3] at z
      cases z
      simp at e4
    · obtain ⟨o', es, ep, e, d, _⟩ := hns
      rw [z, e] at b3
      cases b3
      rw [d] at b6
      cases b6
    · rw [z, hT p hp] at b3
      cases b3
      cases b6
    · obtain ⟨o', es, ep, e, d, _⟩ := hns
      rw [z, hT p hp] at e
      cases e
      cases d
  obtain ⟨mc, n1, n2⟩ := hlim
  have e0 : Env0 P w K mg (hidT s1.heap H) callerA [] s1 H :=
    { frames := rfl, mod := ⟨kin, names hns, ⟨mb, names hb, hbb⟩, ⟨mc, names n1, n2⟩⟩, bs := fun b o e => of_hidT e, bsz := Nat.le_of_eq (hidT_size _ _), funs := trivial, frf := fun b z => absurd (show b ∈ ([] : List Addr) from z) (by simp), hok := ok, bare := .of_eq hg }
  refine codeAny_mono ((F _ kin (names hns) TB).run callerA [] s1 H ⟨[.ref a], []⟩ [.ref a] [.ref a] _ _ hr rfl e0 (hbind s1 (.ref a)) (.cons rfl .nil) (hsp H (fun p hp => ht p.2 (List.mem_map.mpr ⟨p, hp, rfl⟩)) sq)) fun r s' told => ?_
  match r, told with
  | .error e, told =>
    obtain ⟨_, _, _, _, _, _, _, _, _, _, _, _, z⟩ := told
    exact z.elim
  | .ok (.ret u), ⟨v, H', os, bare, un, ok', rel, z⟩ =>
    have z' : v = .bl true := z
    subst z'
    obtain rfl : u = Value.bool true := rel
    have same : ∀ b o, b ∉ cs.map (·.2) → s1.heap.get? b = some o → s'.heap.get? b = some o := fun b o nb e => by
      cases q : H b with
      | none => exact un.keep b o e q (fun z => absurd (show b ∈ ([] : List Addr) from z) (by simp)) (by simp)
      | some u =>
        rcases known q with ⟨y, _⟩ | ⟨_, rfl, _, rfl⟩
        · exact absurd y nb
        · obtain ⟨e1, _⟩ := ok b _ q
          obtain ⟨e2, _⟩ := ok' b _ (un.frzs b _ _ q)
          rw [e] at e1
          cases e1
          exact e2
    have more : ∀ p ∈ cs, ∃ m : Array Value, s'.heap.get? p.2 = some { cls := .none, data := .fields m } := fun p hp => by
      obtain ⟨m, y⟩ := un.tbls p.2 #[] (ht p.2 (List.mem_map.mpr ⟨p, hp, rfl⟩))
      exact ⟨_, ok' p.2 _ y⟩
    refine ⟨rfl, ⟨fun b o e => ?_, fun b o e => ?_⟩, os, bare⟩
    · by_cases c : b ∈ cs.map (·.2)
      · obtain ⟨p, hp, rfl⟩ := List.mem_map.mp c
        obtain ⟨m, hm⟩ := more p hp
        have e' : s1.heap.get? p.2 = some o := e
        rw [hT p hp] at e'
        cases e'
        exact Or.inr (Or.inl ⟨((C p hp).tab (hT p hp)).isCodeTable, rfl, #[], m, rfl, by rw [Array.empty_append]; exact hm⟩)
      · exact Or.inl (same b o c e)
    · by_cases c : b ∈ cs.map (·.2)
      · obtain ⟨p, hp, rfl⟩ := List.mem_map.mp c
        obtain ⟨m, hm⟩ := more p hp
        exact ⟨_, hm⟩
      · exact ⟨o, same b o c e⟩
/-- the table of the def that is called x is empty as yet -/
def TabOf (K : PySem.W.Frag) (mg : Str → Option Value) (h : Heap) (x : Str) : Prop := ∀ (f c P : Addr) (o : Obj) (fd : FuncData) (e : Value) (dd : Option Addr) (us : Array Value) (sl : Array (Option Value)), mg x = some (.ref f) → K.lookup f = some o → o.data = .func fd → fd.code = .ref c →
  K.lookup c = some ⟨e, dd, .fields us, sl⟩ → us[11]? = some (.ref P) → h.get? P = some tab0 ∧ PySem.W.CodeHd h c P
theorem walk_gT {l : PySem.W.OpenLaw} {n k : Nat} {q : Program} {loose : List Str} {XP : (Str → Option Value) → Heap → Prop} {YP : World → Heap → Prop} {d : DefRec} {K : Params → PySem.W.Frag} {x : Str}
    (hn : l.most = some n) (hn2 : n ≤ sizeLine) (hdf : d.params.defaults = []) (hr : Room k callerA) (hY : ∀ (w : World) (h : Heap), YP w h → (K w.params).In h)
    (F : ∀ (w : World) (mg : Str → Option Value) (fa : Addr) (h : Heap), (K w.params).In h → h.Ns mainGlobals mg → mg d.name = some (.ref fa) → (∀ y, ((recsOf q).any fun e => e.name == y) = true → TabOf (K w.params) mg h y) →
      ∃ (fd : FuncData) (cs : List (Addr × Addr)) (sp : Sp), (∀ (s : Shared) (u : Value), BindsTo s fd ⟨[u], []⟩ [(x, u)]) ∧ (∀ p ∈ cs, h.get? p.2 = some tab0 ∧ (K w.params).lookup p.2 = none ∧ PySem.W.CodeHd h p.1 p.2) ∧
        (∀ base : Heap, (K w.params).In base → base.Ns mainGlobals mg → (∀ p ∈ cs, GxR.TabB base mg p.1 p.2) → FnG l.prog w (K w.params) mg base k fa fd [x] sp) ∧
        ∀ (H : Hp) (a : Addr) (ns : List Int), ns.length ≤ n → (∀ p ∈ cs, H p.2 = some (.tbl #[])) → SqL (K w.params) H a (ns.map V.int) → sp [.ref a] H (fun v _ => v = .bl true) fun _ _ _ => False) :
    PySem.W.WalkO q loose XP YP l.row.toRowW d [] (fun f vs => PySem.call f vs) := by
  refine Att.attach_call hn hdf fun w s0 s1 mg mb fa o pm cd doc a vs ns G Y ho hd hcd hmg hobj hints hlen hg => ?_
  have KX := hY w _ Y
  have tabs : ∀ y, ((recsOf q).any fun e => e.name == y) = true → TabOf (K w.params) mg s1.heap y := fun y hy f c P o1 fd1 e dd us sl k0 k1 k2 k3 k4 k5 => by
    obtain ⟨dL, hm, hn1⟩ := List.any_eq_true.mp hy
    obtain ⟨a', o', fd', c', P', h1, h2, h3, h4, h5, h6⟩ := G.T.tab dL hm
    rw [beq_iff_eq.mp hn1, k0] at h1
    cases h1
    rw [KX _ _ k1] at h2
    cases h2
    rw [k2] at h3
    cases h3
    rw [k3] at h4
    cases h4
    have hd := PySem.W.CodeHd.of h5 h6
    obtain ⟨⟨oc, vc, e1, _, e3, e4⟩, hP⟩ := h6
    rw [KX _ _ k4] at e1
    cases e1
    cases e3
    rw [k5] at e4
    cases e4
    exact ⟨hP, hd⟩
  obtain ⟨fd, cs, sp, bind, tb, prom, met⟩ := F w mg fa _ KX G.T.g hmg tabs
  exact law_gT KX G.T.g G.T.b G.T.builtins G.T.nolimit hg (fun p hp => (tb p hp).1) (fun p hp => (tb p hp).2.1) (fun p hp => (tb p hp).2.2) G.T.bmain hobj hints (Nat.le_trans hlen hn2) hr prom bind fun H hH hS => met H a ns hlen hH hS
end Q
set_option Elab.async false
set_option linter.all false
set_option maxRecDepth 100000
set_option maxHeartbeats 2000000
namespace Q
open PySem PySem.Spec PyProof.Rows L2
/-! ### a calculus of worths: each rule tells what a piece is worth from what its parts are worth -/
theorem fzs_data (M : List D) : T.data (.ls (M.map .fz)) = some (.lst M) := by
  show (dataL _).map D.lst = _
  rw [dataL_fz]
  rfl
theorem frz_fz (d : D) : T.frz (.fz d) = .fz d := rfl
theorem frz_un : T.frz .un = .un := rfl
theorem frz_ls (M : List D) : T.frz (.ls (M.map .fz)) = .fz (.lst M) := by unfold T.frz; rw [fzs_data]
theorem frz_ls1 (d : D) : T.frz (.ls [.fz d]) = .fz (.lst [d]) := rfl
def frzE : Env → Env := List.map T.frz
theorem frzE_nil : frzE [] = [] := rfl
theorem frzE_cons (t : T) (r : Env) : frzE (t :: r) = t.frz :: frzE r := rfl
abbrev oL (M : List D) : T := .ls (M.map .fz)
namespace EV
variable {r r1 r2 r3 : Env}
/-! variables, constants -/
theorem varF {i : Nat} {d : D} (h : r[i]? = some (.fz d)) : dVar i r = some (.pl i, r) := by unfold dVar; rw [h]
theorem varL {i : Nat} {l : List T} (h : r[i]? = some (.ls l)) : dVar i r = some (.pl i, r) := by unfold dVar; rw [h]
theorem shF {i : Nat} {d : D} (h : r[i]? = some (.fz d)) (hs : r.set i (.fz d) = r1) : dSh (dVar i) r = some (d, r1) := by
  unfold dSh dVar; rw [h]; simp [share, h, T.data, hs]
theorem set_same {i : Nat} {t : T} (h : r[i]? = some t) : r.set i t = r := by
  obtain ⟨hl, he⟩ := List.getElem?_eq_some_iff.mp h
  rw [← he]; exact List.set_getElem_self hl
theorem shV {i : Nat} {d : D} (h : r[i]? = some (.fz d)) : dSh (dVar i) r = some (d, r) := shF h (set_same h)
theorem shO {i : Nat} {M : List D} (h : r[i]? = some (.ls (M.map .fz))) (hs : r.set i (.fz (.lst M)) = r1) : dSh (dVar i) r = some (.lst M, r1) := by
  unfold dSh dVar; rw [h]; simp only [Option.bind_some, share, h, fzs_data, hs]
theorem cW (d : D) : dC d r = some (.sh d, r) := rfl
theorem cE (d : D) : dSh (dC d) r = some (d, r) := rfl
theorem shS {f : ED} {d : D} (h : f r = some (.sh d, r1)) : dSh f r = some (d, r1) := sh_sh h
theorem shN {f : ED} {M : List D} (h : f r = some (.nw (.ls (M.map .fz)), r1)) : dSh f r = some (.lst M, r1) := sh_nw h (fzs_data M)
theorem scal {f : FD} {d : D} (hr : frzE r = r2) (h : f r2 = some (d, r1)) (hd : d.scal = true) : dScal f r = some (d, r) := by
  unfold dScal; rw [show r.map T.frz = r2 from hr, h]; simp [hd]
theorem lift {f : FD} {d : D} (h : f r = some (d, r1)) : dLift f r = some (.sh d, r1) := by unfold dLift; rw [h]; rfl
/-! lists of arguments -/
theorem fn : fdNil r = some ([], r) := rfl
theorem fc {f : FD} {g : FDs} {d : D} {ds : List D} (h1 : f r = some (d, r1)) (h2 : g r1 = some (ds, r2)) : fdCons f g r = some (d :: ds, r2) := by simp [fdCons, h1, h2]
theorem an : daNil r = some ([], r) := rfl
theorem ac {f : ED} {g : AD} {w : W} {ws : List W} (h1 : f r = some (w, r1)) (h2 : g r1 = some (ws, r2)) : daCons f g r = some (w :: ws, r2) := by simp [daCons, h1, h2]
theorem mn : mdNil r = some ([], r) := rfl
theorem mc {f : MD} {g : MDs} {t : T} {ts : List T} (h1 : f r = some (t, r1)) (h2 : g r1 = some (ts, r2)) : mdCons f g r = some (t :: ts, r2) := by simp [mdCons, h1, h2]
/-! moved -/
theorem mS {f : ED} {d : D} (h : f r = some (.sh d, r1)) : dMv f r = some (.fz d, r1) := by simp [dMv, h, mv, share]
theorem mN {f : ED} {t : T} (h : f r = some (.nw t, r1)) : dMv f r = some (t, r1) := by simp [dMv, h, mv]
theorem mV {i : Nat} {d : D} (h : r[i]? = some (.fz d)) : dMv (dVar i) r = some (.fz d, r) := by
  have s := shV h
  unfold dSh at s
  unfold dMv
  rw [varF h] at s ⊢
  simp only [Option.bind_some] at s ⊢
  simp only [mv, s, Option.bind_some]
theorem mO {i : Nat} {M : List D} (h : r[i]? = some (.ls (M.map .fz))) (hs : r.set i (.fz (.lst M)) = r1) : dMv (dVar i) r = some (.fz (.lst M), r1) := by
  have s := shO h hs
  unfold dSh at s
  unfold dMv
  rw [varL h] at s ⊢
  simp only [Option.bind_some] at s ⊢
  simp only [mv, s, Option.bind_some]
theorem mvMF {i : Nat} {d : D} (h : r[i]? = some (.fz d)) (hs : r.set i .un = r1) : dMv (dMove i) r = some (.fz d, r1) := by
  unfold dMv dMove; rw [h]; simp only [Option.bind_some, mv, hs]
theorem mvML {i : Nat} {l : List T} (h : r[i]? = some (.ls l)) (hs : r.set i .un = r1) : dMv (dMove i) r = some (.ls l, r1) := by
  unfold dMv dMove; rw [h]; simp only [Option.bind_some, mv, hs]
/-! operations -/
section
variable {fa fb : FD} {x y : Int}
theorem opW {g : List D → Option Rs} {a b d : D} (h1 : fa r = some (a, r1)) (h2 : fb r1 = some (b, r2)) (h3 : g [a, b] = some (.val d)) : dOp g fa fb r = some (.sh d, r2) := op_eval h1 h2 h3
theorem unW {g : List D → Option Rs} {a d : D} (h1 : fa r = some (a, r1)) (h3 : g [a] = some (.val d)) : dWith (fdCons fa fdNil) g r = some (.sh d, r1) := un_eval h1 h3
theorem unT {g : List D → Option Rs} {a : D} {l : List D} (h1 : fa r = some (a, r1)) (h3 : g [a] = some (.newT l)) : dWith (fdCons fa fdNil) g r = some (.sh (.tup l), r1) := un_eval h1 h3
theorem unL {g : List D → Option Rs} {a : D} {l : List D} (h1 : fa r = some (a, r1)) (h3 : g [a] = some (.newL l)) : dWith (fdCons fa fdNil) g r = some (.nw (.ls (l.map .fz)), r1) := un_eval h1 h3
theorem add (h1 : fa r = some (.int x, r1)) (h2 : fb r1 = some (.int y, r2)) : dOp gAdd fa fb r = some (.sh (.int (x + y)), r2) := opW h1 h2 rfl
theorem sub (h1 : fa r = some (.int x, r1)) (h2 : fb r1 = some (.int y, r2)) : dOp gSubI fa fb r = some (.sh (.int (x - y)), r2) := opW h1 h2 rfl
theorem mul (h1 : fa r = some (.int x, r1)) (h2 : fb r1 = some (.int y, r2)) (hc : CMulW x y) : dOp gMul fa fb r = some (.sh (.int (x * y)), r2) := opW h1 h2 (if_pos (e := none) hc)
theorem mod (h1 : fa r = some (.int x, r1)) (h2 : fb r1 = some (.int y, r2)) (hc : 0 < y) : dOp gMod fa fb r = some (.sh (.int (x % y)), r2) := opW h1 h2 (if_pos (e := none) hc)
theorem div (h1 : fa r = some (.int x, r1)) (h2 : fb r1 = some (.int y, r2)) (hc : CDivW x y) : dOp gDiv fa fb r = some (.sh (.int (x / y)), r2) := opW h1 h2 (if_pos (e := none) hc)
theorem pow (h1 : fa r = some (.int x, r1)) (h2 : fb r1 = some (.int y, r2)) (hc : CPow x y) : dOp gPow fa fb r = some (.sh (.int (x ^ y.toNat)), r2) := opW h1 h2 (if_pos (e := none) hc)
theorem shl (h1 : fa r = some (.int x, r1)) (h2 : fb r1 = some (.int y, r2)) (hc : CPow x y) : dOp gShl fa fb r = some (.sh (.int (x * 2 ^ y.toNat)), r2) := opW h1 h2 (if_pos (e := none) hc)
theorem shr (h1 : fa r = some (.int x, r1)) (h2 : fb r1 = some (.int y, r2)) (hc : 0 ≤ y) : dOp gShr fa fb r = some (.sh (.int (x / 2 ^ y.toNat)), r2) := opW h1 h2 (if_pos (e := none) hc)
theorem band (h1 : fa r = some (.int x, r1)) (h2 : fb r1 = some (.int y, r2)) : dOp gBand fa fb r = some (.sh (.int (Builtin.bitAnd x y)), r2) := opW h1 h2 rfl
theorem bor (h1 : fa r = some (.int x, r1)) (h2 : fb r1 = some (.int y, r2)) : dOp gBor fa fb r = some (.sh (.int (Builtin.bitOr x y)), r2) := opW h1 h2 rfl
theorem bxor (h1 : fa r = some (.int x, r1)) (h2 : fb r1 = some (.int y, r2)) : dOp gBxor fa fb r = some (.sh (.int (Builtin.bitXor x y)), r2) := opW h1 h2 rfl
theorem lt (h1 : fa r = some (.int x, r1)) (h2 : fb r1 = some (.int y, r2)) : dOp gLt fa fb r = some (.sh (.bl (decide (x < y))), r2) := opW h1 h2 rfl
theorem le (h1 : fa r = some (.int x, r1)) (h2 : fb r1 = some (.int y, r2)) : dOp gLe fa fb r = some (.sh (.bl (decide (x ≤ y))), r2) := opW h1 h2 rfl
theorem gt (h1 : fa r = some (.int x, r1)) (h2 : fb r1 = some (.int y, r2)) : dOp gGt fa fb r = some (.sh (.bl (decide (y < x))), r2) := opW h1 h2 rfl
theorem ge (h1 : fa r = some (.int x, r1)) (h2 : fb r1 = some (.int y, r2)) : dOp gGe fa fb r = some (.sh (.bl (decide (y ≤ x))), r2) := opW h1 h2 rfl
theorem neg (h1 : fa r = some (.int x, r1)) : dUn gNeg fa r = some (.sh (.int (-x)), r1) := unW h1 rfl
theorem eqG {a b : D} {c : Bool} (h1 : fa r = some (a, r1)) (h2 : fb r1 = some (b, r2)) (h3 : gEq [a, b] = some (.val (.bl c))) : dOp gEq fa fb r = some (.sh (.bl c), r2) := opW h1 h2 h3
theorem neG {a b : D} {c : Bool} (h1 : fa r = some (a, r1)) (h2 : fb r1 = some (b, r2)) (h3 : gNe [a, b] = some (.val (.bl c))) : dOp gNe fa fb r = some (.sh (.bl c), r2) := opW h1 h2 h3
theorem eqI (a b : Int) : gEq [.int a, .int b] = some (.val (.bl (a == b))) := rfl
theorem neI (a b : Int) : gNe [.int a, .int b] = some (.val (.bl (!(a == b)))) := rfl
theorem isN {a : D} (h1 : fa r = some (a, r1)) (h2 : fb r1 = some (.non, r2)) : dOp gIsN fa fb r = some (.sh (.bl a.isNon), r2) := opW h1 h2 rfl
theorem notN {a : D} (h1 : fa r = some (a, r1)) (h2 : fb r1 = some (.non, r2)) : dOp gNotN fa fb r = some (.sh (.bl (!a.isNon)), r2) := opW h1 h2 rfl
theorem ixL {l : List D} {d : D} (h1 : fa r = some (.lst l, r1)) (h2 : fb r1 = some (.int x, r2)) (h3 : L2.atI l x = some d) : dOp gIx fa fb r = some (.sh d, r2) := opW h1 h2 (by simp only [gIx, D.items, Option.bind_some, h3])
theorem ixT {l : List D} {d : D} (h1 : fa r = some (.tup l, r1)) (h2 : fb r1 = some (.int x, r2)) (h3 : L2.atI l x = some d) : dOp gIx fa fb r = some (.sh d, r2) := opW h1 h2 (by simp only [gIx, D.items, Option.bind_some, h3])
theorem catT {a b : List D} (h1 : fa r = some (.tup a, r1)) (h2 : fb r1 = some (.tup b, r2)) (hl : a.length + b.length ≤ 1000000) : dOp gCatT fa fb r = some (.sh (.tup (a ++ b)), r2) := op_eval (z := .newT (a ++ b)) h1 h2 (by simp [gCatT, hl])
theorem catL {a b : List D} (h1 : fa r = some (.lst a, r1)) (h2 : fb r1 = some (.lst b, r2)) (hl : a.length + b.length ≤ 1000000) : dOp gCatL fa fb r = some (.nw (.ls ((a ++ b).map .fz)), r2) := op_eval (z := .newL (a ++ b)) h1 h2 (by simp [gCatL, hl])
theorem catS {a b : Str} (h1 : fa r = some (.str a, r1)) (h2 : fb r1 = some (.str b, r2)) (hl : a.length + b.length ≤ 1000000) : dOp gCatS fa fb r = some (.sh (.str (a ++ b)), r2) := op_eval (z := .val (.str (a ++ b))) h1 h2 (by simp [gCatS, hl])
theorem flat1 (d : D) : ∀ n : Nat, (List.replicate n [d]).flatten = List.replicate n d := by
  intro n
  induction n with
  | zero => rfl
  | succ n ih => rw [List.replicate_succ, List.flatten_cons, ih]; rfl
theorem mulL {d : D} (h1 : fa r = some (.lst [d], r1)) (h2 : fb r1 = some (.int x, r2)) (h0 : 0 ≤ x) (h3 : x ≤ 1000) : dOp gMulL fa fb r = some (.nw (.ls ((List.replicate x.toNat d).map .fz)), r2) :=
  op_eval (z := .newL (List.replicate x.toNat d)) h1 h2 (by
    show (if x ≤ 1000 ∧ [d].length ≤ 1000 ∧ 0 ≤ x then some (Rs.newL (List.replicate x.toNat [d]).flatten) else none) = _
    rw [if_pos ⟨h3, by simp, h0⟩, flat1])
theorem lenL {l : List D} (h1 : fa r = some (.lst l, r1)) : dWith (fdCons fa fdNil) gLen r = some (.sh (.int l.length), r1) := unW h1 rfl
theorem lenT {l : List D} (h1 : fa r = some (.tup l, r1)) : dWith (fdCons fa fdNil) gLen r = some (.sh (.int l.length), r1) := unW h1 rfl
theorem lenR {l : List Int} (h1 : fa r = some (.scr l, r1)) : dWith (fdCons fa fdNil) gLen r = some (.sh (.int l.length), r1) := unW h1 (by
  show (some (Rs.val (.int ((l.map D.int).length : Nat)))) = _
  rw [List.length_map])
theorem lenS {s : Str} (h1 : fa r = some (.str s, r1)) (hl : s.length ≤ 1000000) : dWith (fdCons fa fdNil) gLen r = some (.sh (.int s.length), r1) := unW h1 (if_pos (e := none) hl)
theorem tupL {l : List D} (h1 : fa r = some (.lst l, r1)) : dWith (fdCons fa fdNil) gTuple r = some (.sh (.tup l), r1) := unT h1 rfl
theorem tupT {l : List D} (h1 : fa r = some (.tup l, r1)) : dWith (fdCons fa fdNil) gTuple r = some (.sh (.tup l), r1) := unT h1 rfl
theorem lisL {l : List D} (h1 : fa r = some (.lst l, r1)) : dWith (fdCons fa fdNil) gList r = some (.nw (.ls (l.map .fz)), r1) := unL h1 rfl
theorem lisT {l : List D} (h1 : fa r = some (.tup l, r1)) : dWith (fdCons fa fdNil) gList r = some (.nw (.ls (l.map .fz)), r1) := unL h1 rfl
theorem rep {d : D} {s : Str} (h1 : fa r = some (d, r1)) (h3 : gRep [d] = some (.val (.str s))) : dWith (fdCons fa fdNil) gRep r = some (.sh (.str s), r1) := unW h1 h3
theorem max2 (h1 : fa r = some (.int x, r1)) (h2 : fb r1 = some (.int y, r2)) : dWith (fdCons fa (fdCons fb fdNil)) gMax2 r = some (.sh (.int (max x y)), r2) := by
  have e : gMax2 [.int x, .int y] = some (.val (.int (max x y))) := by
    show some (Rs.val (.int (if y > x then y else x))) = _
    congr 3
    split <;> omega
  exact opW h1 h2 e
theorem min2 (h1 : fa r = some (.int x, r1)) (h2 : fb r1 = some (.int y, r2)) : dWith (fdCons fa (fdCons fb fdNil)) gMin2 r = some (.sh (.int (min x y)), r2) := by
  have e : gMin2 [.int x, .int y] = some (.val (.int (min x y))) := by
    show some (Rs.val (.int (if y < x then y else x))) = _
    congr 3
    split <;> omega
  exact opW h1 h2 e
theorem intI (h1 : fa r = some (.int x, r1)) : dWith (fdCons fa fdNil) gInt r = some (.sh (.int x), r1) := unW h1 rfl
theorem intB {b : Bool} (h1 : fa r = some (.bl b, r1)) : dWith (fdCons fa fdNil) gInt r = some (.sh (.int (if b then 1 else 0)), r1) := unW h1 rfl
theorem strI (h1 : fa r = some (.int x, r1)) (hl : x.natAbs.log2 < 1920) : dWith (fdCons fa fdNil) gStrI r = some (.sh (.str (toString x)), r1) := unW h1 (if_pos (e := none) hl)
theorem inG {ng b : Bool} {a c : D} (h1 : fa r = some (a, r1)) (h2 : fb r1 = some (c, r2)) (h3 : gIn ng [a, c] = some (.val (.bl b))) : dOp (gIn ng) fa fb r = some (.sh (.bl b), r2) := opW h1 h2 h3
theorem inR {ng : Bool} (h1 : fa r = some (.int x, r1)) (h2 : fb r1 = some (.int y, r2)) : dInR ng fa fb r = some (.sh (.bl (if ng then !decide (0 ≤ x ∧ x < y) else decide (0 ≤ x ∧ x < y))), r2) := by
  unfold dInR; rw [h1]; simp only [Option.bind_some]; rw [h2]; rfl
theorem isi {c : Cl} {d : D} {b : Bool} (h1 : fa r = some (d, r1)) (h3 : d.isi c = some b) : dIsi c fa r = some (.sh (.bl b), r1) := by unfold dIsi; rw [h1]; simp [h3]
theorem revT {l : List D} (h1 : fa r = some (.tup l, r1)) : dUn gRevT fa r = some (.sh (.tup l.reverse), r1) := un_eval (z := .newT l.reverse) h1 rfl
theorem revL {l : List D} (h1 : fa r = some (.lst l, r1)) : dUn gRevL fa r = some (.nw (.ls (l.reverse.map .fz)), r1) := un_eval (z := .newL l.reverse) h1 rfl
theorem tup {fs : FDs} {ds : List D} (h : fs r = some (ds, r1)) (hl : ds.length ≤ 1000000) : dWith fs gTupD r = some (.sh (.tup ds), r1) := by simp [dWith, h, gTupD, hl, Rs.w]
theorem lst {fs : FDs} {ds : List D} (h : fs r = some (ds, r1)) (hl : ds.length ≤ 1000000) : dWith fs gLstD r = some (.nw (.ls (ds.map .fz)), r1) := by simp [dWith, h, gLstD, hl, Rs.w]
theorem ltT {a b : List Int} (h1 : fa r = some (.tup (a.map .int), r1)) (h2 : fb r1 = some (.tup (b.map .int), r2)) (ha : intsD (a.map .int) = some a) (hb : intsD (b.map .int) = some b) : dOp gLtT fa fb r = some (.sh (.bl (HT.lexLt a b)), r2) := opW h1 h2 (by simp only [gLtT, ha, hb, Option.bind_some])
end
/-! slices -/
theorem pN : pNo r = some (none, r) := rfl
theorem pA {f : FD} {x : Int} (h : f r = some (.int x, r1)) : pAt f r = some (some x, r1) := by unfold pAt; rw [h]; rfl
theorem slL {f : FD} {lo hi : PD} {l : List D} {a b : Option Int} (h1 : f r = some (.lst l, r1)) (h2 : lo r1 = some (a, r2)) (h3 : hi r2 = some (b, r3)) : dSl gSlL f lo hi r = some (.nw (.ls ((cutD l a b).map .fz)), r3) := by
  unfold dSl; rw [h1]; simp only [Option.bind_some]; rw [h2]; simp only [Option.bind_some]; rw [h3]; rfl
theorem slT {f : FD} {lo hi : PD} {l : List D} {a b : Option Int} (h1 : f r = some (.tup l, r1)) (h2 : lo r1 = some (a, r2)) (h3 : hi r2 = some (b, r3)) : dSl gSlT f lo hi r = some (.sh (.tup (cutD l a b)), r3) := by
  unfold dSl; rw [h1]; simp only [Option.bind_some]; rw [h2]; simp only [Option.bind_some]; rw [h3]; rfl
/-! sorted -/
theorem ss {f : FD} {a : D} {l : List D} (h1 : f r = some (a, r1)) (h2 : gSS a = some l) : dSS f r = some (.nw (.ls (l.map .fz)), r1) := by unfold dSS; rw [h1]; simp only [Option.bind_some, h2]; rfl
theorem srt {f : FD} {a : D} {l : List D} (h1 : f r = some (a, r1)) (h2 : gSortL a = some l) : dSortL f r = some (.nw (.ls (l.map .fz)), r1) := by unfold dSortL; rw [h1]; simp only [Option.bind_some, h2]; rfl
/-! tests -/
theorem bl {f : FD} {b : Bool} (h : f r = some (.bl b, r1)) : dBl f r = some (b, r1) := bl_of h
theorem tru {f : FD} {d : D} {b : Bool} (h : f r = some (d, r1)) (hb : truth d = some b) : dTru f r = some (b, r1) := by unfold dTru; rw [h]; simp [hb]
theorem not {f : BD} {b : Bool} (h : f r = some (b, r1)) : dNot f r = some (!b, r1) := by unfold dNot; rw [h]; rfl
theorem and {f g : BD} {a b : Bool} (h : f r = some (a, r1)) (h2 : g r1 = some (b, r1)) : dAnd f g r = some (a && b, r1) := by
  unfold dAnd; rw [h]; cases a
  · rfl
  · exact h2
theorem or {f g : BD} {a b : Bool} (h : f r = some (a, r1)) (h2 : g r1 = some (b, r1)) : dOr f g r = some (a || b, r1) := by
  unfold dOr; rw [h]; cases a
  · exact h2
  · rfl
theorem andT {f g : BD} {a b : Bool} (h : f r = some (a, r1)) (ha : a = true) (h2 : g r1 = some (b, r2)) : dAnd f g r = some (b, r2) := by subst ha; unfold dAnd; rw [h]; exact h2
theorem andF {f g : BD} {a : Bool} (h : f r = some (a, r1)) (ha : a = false) : dAnd f g r = some (false, r1) := by subst ha; unfold dAnd; rw [h]; rfl
theorem orF {f g : BD} {a b : Bool} (h : f r = some (a, r1)) (ha : a = false) (h2 : g r1 = some (b, r2)) : dOr f g r = some (b, r2) := by subst ha; unfold dOr; rw [h]; exact h2
theorem orT {f g : BD} {a : Bool} (h : f r = some (a, r1)) (ha : a = true) : dOr f g r = some (true, r1) := by subst ha; unfold dOr; rw [h]; rfl
theorem boolW {f : BD} {b : Bool} (h : f r = some (b, r1)) : dBool f r = some (.sh (.bl b), r1) := by unfold dBool; rw [h]; rfl
theorem scalT {f : BD} {b : Bool} (hr : frzE r = r2) (h : f r2 = some (b, r1)) : dScalT f r = some (b, r) := by unfold dScalT; rw [show r.map T.frz = r2 from hr, h]; rfl
theorem ifET {c : BD} {f g : ED} {b : Bool} {w : W} (h : c r = some (b, r1)) (hb : b = true) (h2 : f r1 = some (w, r2)) : dIfE c f g r = some (w, r2) := by subst hb; unfold dIfE; rw [h]; exact h2
theorem ifEF {c : BD} {f g : ED} {b : Bool} {w : W} (h : c r = some (b, r1)) (hb : b = false) (h2 : g r1 = some (w, r2)) : dIfE c f g r = some (w, r2) := by subst hb; unfold dIfE; rw [h]; exact h2
theorem chn {g g' : List D → Option Rs} {fa fb fc : FD} {a b c : D} {p q : Bool} (h1 : fa r = some (a, r1)) (h2 : fb r1 = some (b, r2)) (h3 : g [a, b] = some (.val (.bl p))) (h4 : fc r2 = some (c, r2)) (h5 : g' [b, c] = some (.val (.bl q))) : dChain g g' fa fb fc r = some (.sh (.bl (p && q)), r2) := by
  unfold dChain; rw [h1]; simp only [Option.bind_some]; rw [h2]; simp only [Option.bind_some, h3]
  cases p
  · rfl
  · simp only [h4, Option.bind_some, h5]; rfl
/-! maybe raising -/
theorem xl {f : ED} {w : W} (h : f r = some (w, r1)) : xLift f r = some (.inl w, r1) := by unfold xLift; rw [h]; rfl
theorem xb {f : BD} {b : Bool} (h : f r = some (b, r1)) : xbLift f r = some (.inl b, r1) := by unfold xbLift; rw [h]; rfl
theorem xblS {f : XD} {b : Bool} (h : f r = some (.inl (.sh (.bl b)), r1)) : xBl f r = some (.inl b, r1) := by unfold xBl; rw [h]; rfl
theorem xnot {f : XB} {b : Bool} (h : f r = some (.inl b, r1)) : xNot f r = some (.inl (!b), r1) := by unfold xNot; rw [h]; rfl
/-! calls -/
theorem callS {fn : FnT} {f : AD} {ws : List W} {ps qs ps' : List T} {d : D} (h1 : f r = some (ws, r1)) (h2 : pars r1 ws = some (ps, r2)) (hq : ps = qs) (h3 : fn qs = some (.ret (.fz d), ps')) (h4 : ps'.length = ws.length) (h5 : back r2 ws ps' = r3) : dCall fn f r = some (.sh d, r3) := by
  subst hq; simp [dCall, h1, h2, h3, h4, h5, resW]
theorem callN {fn : FnT} {f : AD} {ws : List W} {ps qs ps' : List T} {l : List T} (h1 : f r = some (ws, r1)) (h2 : pars r1 ws = some (ps, r2)) (hq : ps = qs) (h3 : fn qs = some (.ret (.ls l), ps')) (h4 : ps'.length = ws.length) (h5 : back r2 ws ps' = r3) : dCall fn f r = some (.nw (.ls l), r3) := by
  subst hq; simp [dCall, h1, h2, h3, h4, h5, resW]
theorem callXS {fn : FnT} {f : AD} {ws : List W} {ps qs ps' : List T} {d : D} (h1 : f r = some (ws, r1)) (h2 : pars r1 ws = some (ps, r2)) (hq : ps = qs) (h3 : fn qs = some (.ret (.fz d), ps')) (h4 : ps'.length = ws.length) (h5 : back r2 ws ps' = r3) : dCallX fn f r = some (.inl (.sh d), r3) := by
  subst hq; simp [dCallX, h1, h2, h3, h4, h5, resW]
theorem callXN {fn : FnT} {f : AD} {ws : List W} {ps qs ps' : List T} {l : List T} (h1 : f r = some (ws, r1)) (h2 : pars r1 ws = some (ps, r2)) (hq : ps = qs) (h3 : fn qs = some (.ret (.ls l), ps')) (h4 : ps'.length = ws.length) (h5 : back r2 ws ps' = r3) : dCallX fn f r = some (.inl (.nw (.ls l)), r3) := by
  subst hq; simp [dCallX, h1, h2, h3, h4, h5, resW]
theorem callXE {fn : FnT} {f : AD} {ws : List W} {ps qs ps' : List T} {c : Addr} (h1 : f r = some (ws, r1)) (h2 : pars r1 ws = some (ps, r2)) (hq : ps = qs) (h3 : fn qs = some (.exc c, ps')) (h4 : ps'.length = ws.length) (h5 : back r2 ws ps' = r3) : dCallX fn f r = some (.inr c, r3) := by
  subst hq; simp [dCallX, h1, h2, h3, h5]
/-! own lists -/
theorem ixO {i : Nat} {f : FD} {M : List D} {x : Int} {d : D} (h0 : r[i]? = some (.ls (M.map .fz))) (h1 : f r = some (.int x, r1)) (h2 : r1[i]? = some (.ls (M.map .fz))) (h3 : L2.atI M x = some d) : dIxO i f r = some (.sh d, r1) := by
  have e : L2.atI (M.map T.fz) x = some (.fz d) := by
    unfold L2.atI L2.ixN at h3 ⊢
    rw [List.length_map]
    obtain ⟨j, hj, hd⟩ := Option.bind_eq_some_iff.mp h3
    rw [hj]
    simp [hd]
  unfold dIxO
  rw [h0, h1]
  simp only [isLs, if_true, Option.bind_some, h2, e]
theorem app {i : Nat} {f : MD} {M : List D} {d : D} (h0 : r[i]? = some (.ls (M.map .fz))) (h1 : f r = some (.fz d, r1)) (h2 : r1[i]? = some (.ls (M.map .fz))) (hl : M.length < 1000000) (hs : r1.set i (.ls ((M ++ [d]).map .fz)) = r2) : dAppend i f r = some (.sh .non, r2) := by
  have e : (M ++ [d]).map T.fz = M.map .fz ++ [.fz d] := by simp
  have hl2 : (M.map T.fz).length < 1000000 := by rw [List.length_map]; exact hl
  unfold dAppend
  rw [h0, h1]
  simp only [isLs, if_true, Option.bind_some, h2, hl2, ← hs, e]
theorem shD {i : Nat} {l : List T} {M : List D} (h : r[i]? = some (.ls l)) (hd : dataL l = some M) (hs : r.set i (.fz (.lst M)) = r1) : dSh (dVar i) r = some (.lst M, r1) := by
  have e : T.data (.ls l) = some (.lst M) := by
    show (dataL l).map D.lst = _
    rw [hd]; rfl
  unfold dSh dVar; rw [h]; simp only [Option.bind_some, share, h, e, hs]
theorem appT {i : Nat} {f : MD} {l : List T} {t : T} (h0 : r[i]? = some (.ls l)) (h1 : f r = some (t, r1)) (h2 : r1[i]? = some (.ls l)) (hl : l.length < 1000000) (hs : r1.set i (.ls (l ++ [t])) = r2) : dAppend i f r = some (.sh .non, r2) := by
  unfold dAppend
  rw [h0, h1]
  simp only [isLs, if_true, Option.bind_some, h2, hl, ← hs]
theorem ext {i : Nat} {f : FD} {M l : List D} (h0 : r[i]? = some (.ls (M.map .fz))) (h1 : f r = some (.tup l, r1)) (h2 : r1[i]? = some (.ls (M.map .fz))) (hl : M.length + l.length ≤ 1000000) (hs : r1.set i (.ls ((M ++ l).map .fz)) = r2) : dExtend i f r = some (.sh .non, r2) := by
  have e : (M ++ l).map T.fz = M.map .fz ++ l.map .fz := by simp
  have hl2 : (M.map T.fz).length + l.length ≤ 1000000 := by rw [List.length_map]; exact hl
  unfold dExtend
  rw [h0, h1]
  simp only [isLs, if_true, Option.bind_some, h2, hl2, ← hs, e]
theorem pop {i : Nat} {M : List D} {d : D} (h0 : r[i]? = some (.ls ((M ++ [d]).map .fz))) (hs : r.set i (.ls (M.map .fz)) = r1) : dPop i r = some (.sh d, r1) := by
  have e : (M ++ [d]).map T.fz = M.map .fz ++ [.fz d] := by simp
  unfold dPop
  rw [h0, e]
  simp [resW, ← hs]
theorem setO {i : Nat} {f : FD} {M : List D} {x : Int} {j : Nat} {d : D} (h0 : r[i]? = some (.ls (M.map .fz))) (h1 : f r = some (.int x, r1)) (h2 : r1[i]? = some (.ls (M.map .fz))) (h3 : L2.ixN M.length x = some j) (hs : r1.set i (.ls ((M.set j d).map .fz)) = r2) : gdIx i f r (.fz d) = some r2 := by
  unfold gdIx
  rw [h0, h1]
  simp only [isLs, if_true, Option.bind_some, h2, List.length_map, h3, ← hs, List.map_set]
theorem augO {i : Nat} {f : FD} {g : FD} {gop : List D → Option Rs} {M : List D} {x : Int} {j : Nat} {d e d' : D} (h0 : r[i]? = some (.ls (M.map .fz))) (h1 : f r = some (.int x, r1)) (h2 : r1[i]? = some (.ls (M.map .fz))) (hx : 0 ≤ x) (h3 : L2.ixN M.length x = some j) (h4 : M[j]? = some d) (h5 : g r1 = some (e, r2)) (h6 : gop [d, e] = some (.val d')) (h7 : r2[i]? = some (.ls (M.map .fz))) (hs : r2.set i (.ls ((M.set j d').map .fz)) = r3) : dAugIx i f gop g r = some (.nx r3) := by
  unfold dAugIx
  rw [h0, h1]
  have h4' : (M.map T.fz)[j]? = some (.fz d) := by rw [List.getElem?_map, h4]; rfl
  simp only [isLs, if_true, Option.bind_some, h2, List.length_map, hx, h3, h4', h5, h6, h7, ← hs, List.map_set]
/-! comprehensions -/
theorem comp {f : ID} {h : GD} {b : BD} {e : MD} {own : List Nat} {l M : List D} (h1 : f r = some (l, r1)) (h2 : compD h b e own l r1 [] = some (M.map .fz, r2)) (h3 : restore r1 own r2 = r3) : dComp f h b e own r = some (.nw (.ls (M.map .fz)), r3) := by
  unfold dComp; rw [h1]; simp only [Option.bind_some]; rw [h2]; simp only [Option.bind_some, h3]
theorem comp2 {f : ID} {h : GD} {b : BD} {f1 : ID} {hh1 : GD} {b1 : BD} {e : MD} {own own1 : List Nat} {l M : List D} (h1 : f r = some (l, r1)) (h2 : comp2D h b f1 hh1 b1 e own own1 l r1 [] = some (M.map .fz, r2)) (h3 : restore r1 own r2 = r3) : dComp2 f h b f1 hh1 b1 e own own1 r = some (.nw (.ls (M.map .fz)), r3) := by
  unfold dComp2; rw [h1]; simp only [Option.bind_some]; rw [h2]; simp only [Option.bind_some, h3]
theorem allG {f : ID} {h : GD} {e : FD} {own : List Nat} {l : List D} {b : Bool} (h1 : f r = some (l, r1)) (h2 : allD h e own l r1 = some (b, r2)) (h3 : restore r1 own r2 = r3) : dAllG f h e own r = some (.sh (.bl b), r3) := by
  unfold dAllG; rw [h1]; simp only [Option.bind_some]; rw [h2]; simp only [Option.bind_some, h3]
/-- one turn of a comprehension -/
theorem ccY {h : GD} {b : BD} {e : MD} {own : List Nat} {d v : D} {l M : List D} {z : Option (List T × Env)} {c : Bool} (h1 : h (wipeT r own) (.fz d) = some r1) (h2 : b r1 = some (c, r2)) (hc : c = true) (h3 : e r2 = some (.fz v, r3)) (hl : M.length < 1000000) (h4 : compD h b e own l r3 ((M ++ [v]).map .fz) = z) : compD h b e own (d :: l) r (M.map .fz) = z := by
  subst hc
  have hl2 : (M.map T.fz).length < 1000000 := by rw [List.length_map]; exact hl
  rw [List.map_append] at h4
  simp only [compD, h1, Option.bind_some, h2, if_true, h3, hl2]
  exact h4
theorem ccN {h : GD} {b : BD} {e : MD} {own : List Nat} {d : D} {l : List D} {acc : List T} {z : Option (List T × Env)} {c : Bool} (h1 : h (wipeT r own) (.fz d) = some r1) (h2 : b r1 = some (c, r2)) (hc : c = false) (h4 : compD h b e own l r2 acc = z) : compD h b e own (d :: l) r acc = z := by
  subst hc
  simp only [compD, h1, Option.bind_some, h2, Bool.false_eq_true, if_false]
  exact h4
theorem yes : dYes r = some (true, r) := rfl
/-! what is walked -/
theorem itL {f : FD} {l : List D} (h : f r = some (.lst l, r1)) : dItemsL f r = some (l, r1) := by unfold dItemsL; rw [h]; rfl
theorem itT {f : FD} {l : List D} (h : f r = some (.tup l, r1)) : dItemsT f r = some (l, r1) := by unfold dItemsT; rw [h]; rfl
theorem rg1 {f : FDs} {i : Int} (h : f r = some ([.int i], r1)) (h0 : -(2 ^ 62) ≤ i) (h1 : i < 2 ^ 62) : dRange1 f r = some (upto 0 i.toNat, r1) := by unfold dRange1; rw [h]; exact if_pos ⟨h0, h1⟩
theorem rg2 {f : FDs} {i j : Int} (h : f r = some ([.int i, .int j], r1)) (h0 : -(2 ^ 62) ≤ i ∧ i < 2 ^ 62 ∧ -(2 ^ 62) ≤ j ∧ j < 2 ^ 62) : dRange2 f r = some (upto i (j - i).toNat, r1) := by unfold dRange2; rw [h]; exact if_pos h0
theorem rg3 {f : FDs} {i j : Int} (h : f r = some ([.int i, .int j, .int (-1)], r1)) (h0 : -(2 ^ 62) ≤ i ∧ i < 2 ^ 62 ∧ -(2 ^ 62) ≤ j ∧ j < 2 ^ 62) : dRange3 f r = some (downto i (i - j).toNat, r1) := by unfold dRange3; rw [h]; exact if_pos ⟨rfl, h0⟩
theorem zpL {f : FDs} {a b : List D} (h : f r = some ([.lst a, .lst b], r1)) : dZipA f r = some (zipD a b, r1) := by unfold dZipA; rw [h]; rfl
theorem zpT {f : FDs} {a b : List D} (h : f r = some ([.tup a, .tup b], r1)) : dZipA f r = some (zipD a b, r1) := by unfold dZipA; rw [h]; rfl
theorem enm {f : FDs} {a : List D} (h : f r = some ([.lst a], r1)) : dEnum f r = some (enumD a, r1) := by unfold dEnum; rw [h]; rfl
theorem rvs {f : FD} {a : List D} (h : f r = some (.lst a, r1)) : dRev f r = some (a.reverse, r1) := by unfold dRev; rw [h]; rfl
/-! targets -/
theorem gName {i : Nat} {t : T} (hs : r.set i t = r1) : gdName i r t = some r1 := by unfold gdName; rw [hs]
theorem gsN : gdNil r [] = some r := rfl
theorem gsC {g : GD} {h : GDs} {t : T} {ts : List T} {z : Option Env} (h1 : g r t = some r1) (h2 : h r1 ts = z) : gdCons g h r (t :: ts) = z := by unfold gdCons; simp only [h1, Option.bind_some, h2]
theorem gTup {n : Nat} {h : GDs} {l : List D} (hn : l.length = n) (h2 : h r (l.map .fz) = some r1) : gdTup n h r (.fz (.tup l)) = some r1 := by
  unfold gdTup
  simp only [T.tupParts, Option.bind_some, List.length_map, hn, if_true, h2]
theorem gLst {n : Nat} {h : GDs} {l : List D} (hn : l.length = n) (h2 : h r (l.map .fz) = some r1) : gdLst n h r (.fz (.lst l)) = some r1 := by
  unfold gdLst
  simp only [T.lstParts, Option.bind_some, List.length_map, hn, if_true, h2]
/-! statements -/
theorem seq {g h : SD} {o : Option O} (e : g r = some (.nx r1)) (e2 : h r1 = o) : dSeq g h r = o := (seq_nx e).trans e2
theorem seqR {g h : SD} {w : W} {o : O} (e : g r = some (.rt w r1)) (e2 : O.rt w r1 = o) : dSeq g h r = some o := by rw [seq_rt e, e2]
theorem seqX {g h : SD} {c : Addr} (e : g r = some (.ex c r1)) : dSeq g h r = some (.ex c r1) := seq_ex e
theorem asgS {f : XD} {g : GD} {d : D} (h : f r = some (.inl (.sh d), r1)) (h2 : g r1 (.fz d) = some r2) : dAsg f g r = some (.nx r2) := by unfold dAsg; rw [h]; simp only [Option.bind_some, mv, share, h2]
theorem asgN {f : XD} {g : GD} {t : T} (h : f r = some (.inl (.nw t), r1)) (h2 : g r1 t = some r2) : dAsg f g r = some (.nx r2) := by unfold dAsg; rw [h]; simp only [Option.bind_some, mv, h2]
theorem asgV {i : Nat} {g : GD} {d : D} (h : dSh (dVar i) r = some (d, r1)) (h2 : g r1 (.fz d) = some r2) : dAsg (xLift (dVar i)) g r = some (.nx r2) := by
  unfold dSh at h
  obtain ⟨p, e1, e2⟩ := Option.bind_eq_some_iff.mp h
  have hp : p.1 = .pl i := by
    unfold dVar at e1
    split at e1 <;> simp at e1
    rw [← e1]
  unfold dAsg xLift
  rw [e1]
  simp only [Option.bind_some, hp] at e2 ⊢
  simp only [mv, e2, Option.bind_some, h2]
theorem asgX {f : XD} {g : GD} {c : Addr} (h : f r = some (.inr c, r1)) : dAsg f g r = some (.ex c r1) := by unfold dAsg; rw [h]; rfl
theorem drop {f : XD} {w : W} (h : f r = some (.inl w, r1)) : dDrop f r = some (.nx r1) := by unfold dDrop; rw [h]; rfl
theorem dropX {f : XD} {c : Addr} (h : f r = some (.inr c, r1)) : dDrop f r = some (.ex c r1) := by unfold dDrop; rw [h]; rfl
theorem ret {f : XD} {w : W} (h : f r = some (.inl w, r1)) : dRet f r = some (.rt w r1) := by unfold dRet; rw [h]; rfl
theorem nxt : dNext r = some (.nx r) := rfl
theorem ifT {c : XB} {g h : SD} {b : Bool} {o : Option O} (hc : c r = some (.inl b, r1)) (hb : b = true) (h2 : g r1 = o) : dIf c g h r = o := by subst hb; unfold dIf; rw [hc]; exact h2
theorem ifF {c : XB} {g h : SD} {b : Bool} {o : Option O} (hc : c r = some (.inl b, r1)) (hb : b = false) (h2 : h r1 = o) : dIf c g h r = o := by subst hb; unfold dIf; rw [hc]; exact h2
theorem aug {i : Nat} {g : List D → Option Rs} {f : FD} {d e d' : D} (h0 : r[i]? = some (.fz d)) (h1 : f r = some (e, r1)) (h2 : r1[i]? = some (.fz d)) (h3 : g [d, e] = some (.val d')) (hs : r1.set i (.fz d') = r2) : dAug i g f r = some (.nx r2) := by
  unfold dAug
  rw [h0, h1]
  simp only [isFz, if_true, Option.bind_some, h2, h3, hs]
theorem for_ {f : ID} {h : GD} {body : SD} {l : List D} {o : Option O} (e : f r = some (l, r1)) (e2 : loopD h body l r1 = o) : dFor f h body r = o := by unfold dFor; rw [e]; exact e2
theorem lpN {h : GD} {body : SD} {d : D} {l : List D} {o : Option O} (h1 : h r (.fz d) = some r1) (h2 : body r1 = some (.nx r2)) (h3 : loopD h body l r2 = o) : loopD h body (d :: l) r = o := by
  simp only [loopD, h1, Option.bind_some, h2]; exact h3
theorem whT {t : XB} {body : SD} {n : Nat} {o : Option O} (h1 : t r = some (.inl true, r1)) (h2 : body r1 = some (.nx r2)) (h3 : whileD t body n r2 = o) : whileD t body (n + 1) r = o := by
  simp only [whileD, h1, Option.bind_some, h2]; exact h3
theorem whF {t : XB} {body : SD} {n : Nat} (h1 : t r = some (.inl false, r1)) : whileD t body (n + 1) r = some (.nx r1) := by
  simp only [whileD, h1, Option.bind_some]
/-! a whole def -/
def finO (n : Nat) (fx : List Bool) (ps : List T) : O → Option (Res × List T)
  | .nx r => if n ≤ r.length then some (.ret (.fz .non), outP fx ps r) else none
  | .rt w r => (retW n r w).bind fun p => if n ≤ p.2.length then some (.ret p.1, outP fx ps p.2) else none
  | .ex c r => if n ≤ r.length then some (.exc c, outP fx ps r) else none
  | _ => none
theorem fnO {n N : Nat} {fx : List Bool} {b : SD} {ps : List T} {o : O} {z : Res × List T} (hl : ps.length = n) (e : b (ps ++ List.replicate (N - n) .un) = some o) (h : finO n fx ps o = some z) : fnD n N fx b ps = some z := by
  unfold fnD
  rw [if_pos hl, e]
  simp only [Option.bind_some]
  rw [← h]
  cases o <;> rfl
theorem finS {n : Nat} {fx : List Bool} {ps qs : List T} {d : D} (hn : n ≤ r.length) (h : outP fx ps r = qs) : finO n fx ps (.rt (.sh d) r) = some (.ret (.fz d), qs) := by
  simp [finO, retW, hn, h]
theorem finN {n : Nat} {fx : List Bool} {ps qs : List T} {t : T} (hn : n ≤ r.length) (h : outP fx ps r = qs) : finO n fx ps (.rt (.nw t) r) = some (.ret t, qs) := by
  simp [finO, retW, hn, h]
theorem finV {n i : Nat} {fx : List Bool} {ps qs : List T} {l : List T} (hi : ¬ i < n) (h0 : r[i]? = some (.ls l)) (hn : n ≤ r.length) (h : outP fx ps (r.set i .un) = qs) : finO n fx ps (.rt (.pl i) r) = some (.ret (.ls l), qs) := by
  simp [finO, retW, hi, h0, hn, h]
theorem finW {n i : Nat} {fx : List Bool} {ps qs : List T} {d : D} (hi : ¬ i < n) (h0 : r[i]? = some (.fz d)) (hn : n ≤ r.length) (h : outP fx ps (r.set i .un) = qs) : finO n fx ps (.rt (.pl i) r) = some (.ret (.fz d), qs) := by
  simp [finO, retW, hi, h0, hn, h]
theorem finP {n i : Nat} {fx : List Bool} {ps qs : List T} {d : D} (hi : i < n) (h0 : dSh (dVar i) r = some (d, r1)) (hn : n ≤ r1.length) (h : outP fx ps r1 = qs) : finO n fx ps (.rt (.pl i) r) = some (.ret (.fz d), qs) := by
  unfold dSh at h0
  obtain ⟨p, e1, e2⟩ := Option.bind_eq_some_iff.mp h0
  have hp : p.1 = .pl i ∧ p.2 = r := by
    unfold dVar at e1
    split at e1 <;> simp at e1
    rw [← e1]; exact ⟨rfl, rfl⟩
  rw [hp.1, hp.2] at e2
  simp [finO, retW, hi, e2, hn, h]
theorem finNx {n : Nat} {fx : List Bool} {ps qs : List T} (hn : n ≤ r.length) (h : outP fx ps r = qs) : finO n fx ps (.nx r) = some (.ret (.fz .non), qs) := by
  simp [finO, hn, h]
theorem finEx {n : Nat} {fx : List Bool} {ps qs : List T} {c : Addr} (hn : n ≤ r.length) (h : outP fx ps r = qs) : finO n fx ps (.ex c r) = some (.exc c, qs) := by
  simp [finO, hn, h]
end EV
end Q
set_option Elab.async false
set_option linter.all false
set_option maxRecDepth 100000
set_option maxHeartbeats 2000000
/-! enumerate of a tuple -/
namespace Q
open PySem PySem.Spec PyProof.Rows L2
variable [TbS]
variable {K : PySem.W.Frag}
def dEnumA (f : FDs) : ID := fun r => (f r).bind fun p => match p.1 with
  | [.lst a] => some (enumD a, p.2)
  | [.tup a] => some (enumD a, p.2)
  | _ => none
end Q
namespace Q
open PySem PySem.Spec PyProof.Rows L2
namespace EV
theorem enmL {r r1 : Env} {f : FDs} {a : List D} (h : f r = some ([.lst a], r1)) : dEnumA f r = some (enumD a, r1) := by unfold dEnumA; rw [h]; rfl
theorem enmT {r r1 : Env} {f : FDs} {a : List D} (h : f r = some ([.tup a], r1)) : dEnumA f r = some (enumD a, r1) := by unfold dEnumA; rw [h]; rfl
end EV
end Q
set_option Elab.async false
set_option linter.all false
set_option maxRecDepth 100000
set_option maxHeartbeats 2000000
/-! tuple(..) of a generator expression -/
namespace Q
open PySem PySem.Spec PyProof.Rows L2 GxR
section
variable {X : Cx} {pins : List (Addr × Obj)} {σ : L2.St} {H : Hp} {s : Shared}
def lsO (acc : List Value) (c : Nat) : Obj := { cls := .type "list", dict := none, data := .seq acc.toArray c, slots := #[] }
/-- what is gathered at S -/
def SC (S : Addr) (s : Shared) (acc : List Value) : Prop := ∃ c, s.heap.get? S = some (lsO acc c)
/-! ### the gathering -/
end
end Q
set_option Elab.async false
set_option linter.all false
set_option maxRecDepth 100000
set_option maxHeartbeats 2000000
/-! tuple(..) of a generator expression, at the data's level -/
namespace Q
open PySem PySem.Spec PyProof.Rows L2
variable [TbS]
section
variable {K : PySem.W.Frag}
def gatD (h : GD) (e : FD) (own : List Nat) : List D → Env → List D → Option (List D × Env)
  | [], r, acc => some (acc, r)
  | d :: l, r, acc => (h (wipeT r own) (.fz d)).bind fun r1 => (e r1).bind fun p => if acc.length < 1000000 then gatD h e own l p.2 (acc ++ [p.1]) else none
def dTupG (f : ID) (h : GD) (e : FD) (own : List Nat) : ED := fun r => (f r).bind fun p => (gatD h e own p.1 p.2 []).bind fun q => some (.sh (.tup q.1), restore p.2 own q.2)
end
end Q
namespace Q
open PySem PySem.Spec PyProof.Rows L2
namespace EV
theorem tupG {r r1 r2 r3 : Env} {f : ID} {h : GD} {e : FD} {own : List Nat} {l M : List D} (h1 : f r = some (l, r1)) (h2 : gatD h e own l r1 [] = some (M, r2)) (h3 : restore r1 own r2 = r3) : dTupG f h e own r = some (.sh (.tup M), r3) := by
  unfold dTupG; rw [h1]; simp only [Option.bind_some]; rw [h2]; simp only [Option.bind_some, h3]
theorem gt1 {r r1 r2 : Env} {h : GD} {e : FD} {own : List Nat} {d v : D} {l M : List D} {z : Option (List D × Env)} (h1 : h (wipeT r own) (.fz d) = some r1) (h3 : e r1 = some (v, r2)) (hl : M.length < 1000000) (h4 : gatD h e own l r2 (M ++ [v]) = z) : gatD h e own (d :: l) r M = z := by
  simp only [gatD, h1, Option.bind_some, h3, hl, if_true]; exact h4
end EV
end Q
set_option Elab.async false
set_option linter.all false
set_option maxRecDepth 100000
set_option maxHeartbeats 2000000
/-! {elt for tg in iter}, elt a tuple of whole numbers -/
namespace RS
open PySem PySem.Spec PyProof.Rows L2 PpSet Q
end RS
set_option Elab.async false
set_option linter.all false
set_option maxRecDepth 100000
set_option maxHeartbeats 2000000
/-! sorted({elt for tg in iter}), elt a tuple of whole numbers, at the data's level -/
namespace Q
open PySem PySem.Spec PyProof.Rows L2 PpSet RS
variable [TbS]
section
variable {K : PySem.W.Frag} {F : Fx} {G H G' H' : Hp} {r r' : List T} {x x' : List (Option V)} {f f' : Fp}
def intT : D → Option (List Int)
  | .tup k => intsD k
  | _ => none
def gatS (h : GD) (e : FD) (own : List Nat) : List D → Env → List (List Int) → Option (List (List Int) × Env)
  | [], r, acc => some (acc, r)
  | d :: l, r, acc => (h (wipeT r own) (.fz d)).bind fun r1 => (e r1).bind fun p => (intT p.1).bind fun k => if acc.length < 62 then gatS h e own l p.2 (acc ++ [k]) else none
def dSSC (f : ID) (h : GD) (e : FD) (own : List Nat) : ED := fun r => (f r).bind fun p => (gatS h e own p.1 p.2 []).bind fun q =>
  if (q.1.all fun k => k.length == (q.1.headD [0]).length && decide (0 < k.length)) = true then some ((Rs.newL ((sortI q.1).map tupD)).w, restore p.2 own q.2) else none
end
end Q
namespace Q
open PySem PySem.Spec PyProof.Rows L2
namespace EV
theorem ssc {r r1 r2 r3 : Env} {f : ID} {h : GD} {e : FD} {own : List Nat} {l : List D} {M S : List (List Int)} (h1 : f r = some (l, r1)) (h2 : gatS h e own l r1 [] = some (M, r2)) (h3 : restore r1 own r2 = r3) (hc : (M.all fun k => k.length == (M.headD [0]).length && decide (0 < k.length)) = true) (hs : sortI M = S) : dSSC f h e own r = some ((Rs.newL (S.map tupD)).w, r3) := by
  unfold dSSC; rw [h1]; simp only [Option.bind_some]; rw [h2]; simp only [Option.bind_some, h3, hs]; rw [if_pos hc]
theorem gs1 {r r1 r2 : Env} {h : GD} {e : FD} {own : List Nat} {d v : D} {k : List Int} {l : List D} {M : List (List Int)} {z : Option (List (List Int) × Env)} (h1 : h (wipeT r own) (.fz d) = some r1) (h3 : e r1 = some (v, r2)) (hk : intT v = some k) (hl : M.length < 62) (h4 : gatS h e own l r2 (M ++ [k]) = z) : gatS h e own (d :: l) r M = z := by
  simp only [gatS, h1, Option.bind_some, h3, hk, hl, if_true]; exact h4
end EV
end Q
set_option Elab.async false
set_option linter.all false
set_option maxRecDepth 100000
set_option maxHeartbeats 2000000
/-! dicts that are known to their object: keys whole numbers and texts, or tuples of such -/
namespace Q
open PySem PySem.Spec PyProof.Rows L2
section
variable {P : Program} {w : World}
theorem PairsK.of {es : List DictEntry} {ps : List (Key × Value)} (h : Pairs (mixKind P w) es ps) : PairsK es ps := by
  induction h with
  | nil => trivial
  | cons h1 h2 _ ih => exact ⟨h1, h2, ih⟩
theorem dkw_ok {H : Hp} {h : Heap} {a : Addr} {o : Obj} {kvs : List (Key × V)} (x : DK0 (keyH w) h a o kvs) : ObjOk P w H h a (DKw (keyH w) a o kvs) :=
  ⟨x, ⟨o, x.1⟩, fun h1 h2 p k => ⟨k o (show DK0 (keyH w) h1 a o kvs from p).1, (show DK0 (keyH w) h1 a o kvs from p).2⟩⟩
end
section
variable {X : Cx} {o i : Expr} {pos : Pos} {td ty : TE} {hk : Key → Int}
/-- {} -/
def tWNew (hk : Key → Int) : TE := fun _ H Q => ∀ p o, H p = none → Q (.ref p) (upd H p (DKw hk p o []))
theorem dk0_new {h : Heap} {a : Addr} (e : h.get? a = some { cls := .type "dict", data := .dict #[] }) (hs : (a == sysModules) = false) : DK0 hk h a { cls := .type "dict", data := .dict #[] } [] :=
  ⟨e, Nat.zero_le _, hs, [], .nil, #[], 0, ⟨rfl, rfl, rfl⟩, rfl, fun _ z => (nomatch z), trivial, List.nodup_nil⟩
theorem pe_wnew (e : hk = keyH X.w) : PE X (.Dict [] [] pos) (tWNew hk) := ⟨fun pins s σ H Q I h => by
  subst e
  exact wpAny_Dict_empty ⟨.ref s.heap.objs.size, _, I.laid (a := s.heap.objs.size) (o := DKw (keyH X.w) s.heap.objs.size { cls := .type "dict", data := .dict #[] } []) (t' := s.toks) (fun _ _ q => Heap.get?_push_of_some _ q) (Nat.le_refl _)
    (dkw_ok (dk0_new (Heap.get?_push_size _ rfl) (beq_eq_false_iff_ne.mpr (Ne.symm (Nat.ne_of_lt I.big))))), rfl, h _ _ (I.hok.fresh (Nat.le_refl _))⟩⟩
end
/-! ### for k in d -/
end Q
set_option Elab.async false
set_option linter.all false
set_option maxRecDepth 100000
set_option maxHeartbeats 2000000
/-! own dicts, and dicts that are shared -/
namespace Q
open PySem PySem.Spec PyProof.Rows L2
variable [TbS]
/-- a whole number or a text as a key -/
def keyD : D → Option Key
  | .int i => some (.inl i)
  | .str x => some (.inr x)
  | _ => none
def keysD : List D → Option (List Key)
  | [] => some []
  | d :: l => (keyD d).bind fun k => (keysD l).map (k :: ·)
def backK : Key → D
  | .inl i => .int i
  | .inr x => .str x
section
variable {α : Type} [DecidableEq α]
def getKs : List α → List D → α → Option D
  | a :: ks, d :: l, k => if a = k then some d else getKs ks l k
  | _, _, _ => none
/-- its keys and worths after d[k] = v -/
def putKs (ks : List α) (k : α) : List α := if k ∈ ks then ks else ks ++ [k]
def putVs (ks : List α) (l : List D) (k : α) (v : D) : List D := if k ∈ ks then (ks.zip l).map (fun p => if p.1 = k then v else p.2) else l ++ [v]
end
/-- what an own dict, or a shared one, tells of a key -/
def getT : T → D → Option (Option D)
  | .fz (.dk ks l), kd | .dk ks l, kd => match keyD kd with
    | some k => some (getKs ks l k)
    | none => match kd with
      | .tup ds => if ks = [] then (keysD ds).map fun _ => none else none
      | _ => none
  | .fz (.dt ks l), .tup ds | .dt ks l, .tup ds => (keysD ds).map fun kk => getKs ks l kk
  | _, _ => none
def putT : T → D → D → Option T
  | .dk ks l, kd, d => match keyD kd with
    | some k => if ks.length < 1000000 then some (.dk (putKs ks k) (putVs ks l k d)) else none
    | none => match kd with
      | .tup ds => if ks = [] then (keysD ds).map fun kk => .dt [kk] [d] else none
      | _ => none
  | .dt ks l, .tup ds, d => (keysD ds).bind fun kk => if ks.length < 1000000 then some (.dt (putKs ks kk) (putVs ks l kk d)) else none
  | _, _, _ => none
section
variable {K : PySem.W.Frag} {F : Fx} {G H : Hp} {r : List T} {x : List (Option V)}
/-! the same where the address of the key's tuple stands beside -/
theorem SI.newWk (I : SI K F G H r x) {p : Addr} {o : Obj} (h : H p = none) : SI K F G (upd H p (DKw TbS.hk p o [])) (r ++ [.dk [] []]) (x ++ [some (.ref p)]) := by
  obtain ⟨f, hr, hf⟩ := I.own
  have np : ∀ b, f b → b ≠ p := fun b hb z => by subst z; exact (hf b hb).2.1 h
  have s1 : RtL K G (upd H p (DKw TbS.hk p o [])) r x f := hr.frame (Ex.refl G) fun b hb => upd_ne (np b hb)
  have s3 : RtL K G (upd H p (DKw TbS.hk p o [])) [.dk [] []] [some (.ref p)] (fun b => b = p) := .cons (g := fun b => b = p) (h := fun _ => False) (.dk (kvs := []) rfl upd_same rfl rfl .nil) .nil (fun b hb => hb) (fun b hb => hb.elim) (fun b _ z => z)
  refine I.next f hf (Ex.refl G) (fun a o e => ?_) I.pl (fun a o e _ => by rw [upd_ne (ne_of_none e h)]; exact e) (fun a ha => ?_) (fun a o e => Or.inl e) (s3.app s1 fun b hb z => np b hb z) (fun b hb => ?_)
  · have : a ≠ p := fun z => by subst z; rw [I.Gnone h] at e; cases e
    rw [upd_ne this]
    exact I.gh a o e
  · rw [upd_ne (fun z => ha (by rw [z]; exact h))]; exact ha
  · rcases hb with z | z
    · exact ⟨(hf b z).1, by rw [upd_ne (np b z)]; exact (hf b z).2.1, Or.inl z⟩
    · subst z
      exact ⟨I.Gnone h, by rw [upd_same]; exact Option.some_ne_none _, Or.inr h⟩
def RelOD (K : PySem.W.Frag) (G : Hp) : Option D → Option V → Prop
  | some d, some v => Rp K G d v
  | none, none => True
  | _, _ => False
theorem RelOD.some {od : Option V} {d : D} (h : RelOD K G (some d) od) : ∃ v, od = some v ∧ Rp K G d v := by
  cases od with
  | none => exact h.elim
  | some v => exact ⟨v, rfl, h⟩
theorem RelOD.is {a : Option D} {b : Option V} (h : RelOD K G a b) : a.isSome = b.isSome := by
  cases a <;> cases b <;> first | rfl | exact h.elim
/-- a dict lies here -/
def isDT : Option T → Bool
  | some (.dk _ _) | some (.dt _ _) | some (.fz (.dk _ _)) | some (.fz (.dt _ _)) => true
  | _ => false
/-! ### the rules -/
def dNewK : ED := fun r => some (.nw (.dk [] []), r)
theorem de_newK : DE K (tWNew TbS.hk) dNewK := fun F G H r s tm us w r' I hl e Q q => by
  cases e
  intro p o hp
  exact q _ G _ (Ex.refl G) (by simpa only [W.tm, W.vl, List.append_assoc] using I.newWk hp) hl trivial
/-- name[e] of a dict -/
def dGetO (i : Nat) (f : FD) : ED := fun r => if isDT r[i]? = true then (f r).bind fun p => (p.2[i]?).bind fun t => (getT t p.1).bind fun od => od.map fun d => (.sh d, p.2)
  else none
/-- e in name, e not in name, of a dict -/
def dInK (ng : Bool) (f : FD) (i : Nat) : ED := fun r => (f r).bind fun p => (p.2[i]?).bind fun t => (getT t p.1).bind fun od => some (.sh (.bl (if ng = true then !od.isSome else od.isSome)), p.2)
/-- name[k] = worth, of an own dict -/
def gdDk (i : Nat) (f : FD) : GD := fun r t => if isDT r[i]? = true then (f r).bind fun p => match t with
  | .fz d => (p.2[i]?).bind fun t0 => (putT t0 p.1 d).map fun t' => p.2.set i t'
  | _ => none
  else none
/-- for k in a dict -/
def dKeys (f : FD) : ID := fun r => (f r).bind fun p => match p.1 with
  | .dk ks _ => some (ks.map backK, p.2)
  | .dt ks _ => some (ks.map fun kk => .tup (kk.map backK), p.2)
  | _ => none
end
end Q
set_option Elab.async false
set_option linter.all false
set_option maxRecDepth 100000
set_option maxHeartbeats 2000000
/-! {k: v for tg in iter if ..}, the new dict known to its object -/
namespace Q
open PySem PySem.Spec PyProof.Rows L2
/-! {k: v, ..} -/
/-! name = {k: v for ..} on one line -/
end Q
set_option Elab.async false
set_option linter.all false
set_option maxRecDepth 100000
set_option maxHeartbeats 2000000
/-! dict comprehensions and displays, count, name[i][k] = v, all at D -/
namespace Q
open PySem PySem.Spec PyProof.Rows L2
variable [TbS]
section
variable {K : PySem.W.Frag} {F : Fx} {G H : Hp} {r : List T} {x : List (Option V)}
/-- {k: v for target in walk if ..} -/
def compK (h : GD) (b : BD) (ek ev : FD) (own : List Nat) : List D → Env → T → Option (T × Env)
  | [], r, t => some (t, r)
  | d :: l, r, t => (h (wipeT r own) (.fz d)).bind fun r1 => (b r1).bind fun p => if p.1 = true then (ek p.2).bind fun k => (ev k.2).bind fun v => (putT t k.1 v.1).bind fun t' => compK h b ek ev own l v.2 t' else compK h b ek ev own l p.2 t
def dDictC (f : ID) (h : GD) (b : BD) (ek ev : FD) (own : List Nat) : ED := fun r => (f r).bind fun p => (compK h b ek ev own p.1 p.2 (.dk [] [])).bind fun q => some (.nw q.1, restore p.2 own q.2)
/-! ### displays -/
def dPairs : List (FD × FD) → Env → Option (List (D × D) × Env)
  | [], r => some ([], r)
  | f :: l, r => (f.1 r).bind fun p => (f.2 p.2).bind fun q => (dPairs l q.2).map fun z => ((p.1, q.1) :: z.1, z.2)
def putAll : T → List (D × D) → Option T
  | t, [] => some t
  | t, p :: l => (putT t p.1 p.2).bind fun t' => putAll t' l
def dDisp (fs : List (FD × FD)) : ED := fun r => (dPairs fs r).bind fun p => (putAll (.dk [] []) p.1).map fun t => (.nw t, p.2)
/-- e[k] of a shared dict -/
def dGetF (fo f : FD) : ED := fun r => (fo r).bind fun o => (f o.2).bind fun p => (getT (.fz o.1) p.1).bind fun od => od.map fun d => (.sh d, p.2)
/-! ### name[i][k] = worth -/
/-! ### count -/
end
/-! ### a tuple of whole numbers of the top -/
end Q
set_option Elab.async false
set_option linter.all false
set_option maxRecDepth 100000
set_option maxHeartbeats 2000000
/-! the calculus of worths: dicts -/
namespace Q
open PySem PySem.Spec PyProof.Rows L2
namespace EV
variable {r r1 r2 r3 r4 : Env}
theorem newK : dNewK r = some (.nw (.dk [] []), r) := rfl
theorem mNewK : dMv dNewK r = some (.dk [] [], r) := rfl
/-- a thing of one's own becomes shared -/
theorem shT {i : Nat} {t : T} {d : D} (h : r[i]? = some t) (hd : t.data = some d) (hp : dVar i r = some (.pl i, r)) (hs : r.set i (.fz d) = r1) : dSh (dVar i) r = some (d, r1) := by
  unfold dSh; rw [hp]; simp only [Option.bind_some, share, h, hd, hs]
theorem varT {i : Nat} {t : T} (h : r[i]? = some t) (hu : t ≠ .un) : dVar i r = some (.pl i, r) := by
  unfold dVar; rw [h]; cases t <;> first | rfl | exact absurd rfl hu
theorem shK {i : Nat} {ks : List Key} {l : List D} (h : r[i]? = some (.dk ks l)) (hs : r.set i (.fz (.dk ks l)) = r1) : dSh (dVar i) r = some (.dk ks l, r1) := shT h rfl (varT h (fun z => by cases z)) hs
theorem shX {i : Nat} {ks : List (List Key)} {l : List D} (h : r[i]? = some (.dt ks l)) (hs : r.set i (.fz (.dt ks l)) = r1) : dSh (dVar i) r = some (.dt ks l, r1) := shT h rfl (varT h (fun z => by cases z)) hs
theorem varK {i : Nat} {ks : List Key} {l : List D} (h : r[i]? = some (.dk ks l)) : dVar i r = some (.pl i, r) := varT h (fun z => by cases z)
theorem varX {i : Nat} {ks : List (List Key)} {l : List D} (h : r[i]? = some (.dt ks l)) : dVar i r = some (.pl i, r) := varT h (fun z => by cases z)
/-- what is new is shared -/
theorem shNT {f : ED} {t : T} {d : D} (h : f r = some (.nw t, r1)) (hd : t.data = some d) : dSh f r = some (d, r1) := by
  unfold dSh; rw [h]; simp only [Option.bind_some, share, hd, Option.map_some]
theorem getO {i : Nat} {f : FD} {t0 t : T} {kd d : D} (h0 : r[i]? = some t0) (hd : isDT (some t0) = true) (h : f r = some (kd, r1)) (h1 : r1[i]? = some t) (hg : getT t kd = some (some d)) : dGetO i f r = some (.sh d, r1) := by
  unfold dGetO; rw [h0, hd, h]; simp only [if_true, Option.bind_some, h1, hg, Option.map_some]
theorem getF {fo f : FD} {d0 kd d : D} (h0 : fo r = some (d0, r1)) (h : f r1 = some (kd, r2)) (hg : getT (.fz d0) kd = some (some d)) : dGetF fo f r = some (.sh d, r2) := by
  unfold dGetF; rw [h0]; simp only [Option.bind_some]; rw [h]; simp only [Option.bind_some, hg, Option.map_some]
theorem inK {ng : Bool} {f : FD} {i : Nat} {t : T} {kd : D} {od : Option D} {b : Bool} (h : f r = some (kd, r1)) (h1 : r1[i]? = some t) (hg : getT t kd = some od) (hb : (if ng = true then !od.isSome else od.isSome) = b) : dInK ng f i r = some (.sh (.bl b), r1) := by
  unfold dInK; rw [h]; simp only [Option.bind_some, h1, hg, hb]
theorem gK {i : Nat} {f : FD} {t0 t t' : T} {kd d : D} (h0 : r[i]? = some t0) (hd : isDT (some t0) = true) (h : f r = some (kd, r1)) (h1 : r1[i]? = some t) (hp : putT t kd d = some t') (hs : r1.set i t' = r2) : gdDk i f r (.fz d) = some r2 := by
  unfold gdDk; rw [h0, hd, h]; simp only [if_true, Option.bind_some, h1, hp, Option.map_some, hs]
theorem prN : dPairs [] r = some ([], r) := rfl
theorem prC {f g : FD} {l : List (FD × FD)} {k v : D} {ds : List (D × D)} (h1 : f r = some (k, r1)) (h2 : g r1 = some (v, r2)) (h3 : dPairs l r2 = some (ds, r3)) : dPairs ((f, g) :: l) r = some ((k, v) :: ds, r3) := by
  simp only [dPairs, h1, h2, h3, Option.bind_some, Option.map_some]
theorem disp {fs : List (FD × FD)} {ds : List (D × D)} {t : T} (h : dPairs fs r = some (ds, r1)) (hp : putAll (.dk [] []) ds = some t) : dDisp fs r = some (.nw t, r1) := by
  unfold dDisp; rw [h]; simp only [Option.bind_some, hp, Option.map_some]
theorem dcomp {f : ID} {h : GD} {b : BD} {ek ev : FD} {own : List Nat} {l : List D} {t : T} (h1 : f r = some (l, r1)) (h2 : compK h b ek ev own l r1 (.dk [] []) = some (t, r2)) (h3 : restore r1 own r2 = r3) : dDictC f h b ek ev own r = some (.nw t, r3) := by
  unfold dDictC; rw [h1]; simp only [Option.bind_some]; rw [h2]; simp only [Option.bind_some, h3]
theorem ckY {h : GD} {b : BD} {ek ev : FD} {own : List Nat} {d k v : D} {l : List D} {t t' : T} {z : Option (T × Env)} {c : Bool} (h1 : h (wipeT r own) (.fz d) = some r1) (h2 : b r1 = some (c, r2)) (hc : c = true) (h3 : ek r2 = some (k, r3)) (h4 : ev r3 = some (v, r4)) (hp : putT t k v = some t') (h5 : compK h b ek ev own l r4 t' = z) : compK h b ek ev own (d :: l) r t = z := by
  subst hc
  simp only [compK, h1, Option.bind_some, h2, if_true, h3, h4, hp]
  exact h5
theorem keysK {f : FD} {ks : List Key} {l : List D} (h : f r = some (.dk ks l, r1)) : dKeys f r = some (ks.map backK, r1) := by unfold dKeys; rw [h]; rfl
theorem keysX {f : FD} {ks : List (List Key)} {l : List D} (h : f r = some (.dt ks l, r1)) : dKeys f r = some (ks.map fun kk => .tup (kk.map backK), r1) := by unfold dKeys; rw [h]; rfl
theorem callK {fn : FnT} {f : AD} {ws : List W} {ps qs ps' : List T} {ks : List Key} {l : List D} (h1 : f r = some (ws, r1)) (h2 : pars r1 ws = some (ps, r2)) (hq : ps = qs) (h3 : fn qs = some (.ret (.dk ks l), ps')) (h4 : ps'.length = ws.length) (h5 : back r2 ws ps' = r3) : dCall fn f r = some (.nw (.dk ks l), r3) := by
  subst hq; simp [dCall, h1, h2, h3, h4, h5, resW]
theorem callX {fn : FnT} {f : AD} {ws : List W} {ps qs ps' : List T} {ks : List (List Key)} {l : List D} (h1 : f r = some (ws, r1)) (h2 : pars r1 ws = some (ps, r2)) (hq : ps = qs) (h3 : fn qs = some (.ret (.dt ks l), ps')) (h4 : ps'.length = ws.length) (h5 : back r2 ws ps' = r3) : dCall fn f r = some (.nw (.dt ks l), r3) := by
  subst hq; simp [dCall, h1, h2, h3, h4, h5, resW]
theorem finVK {n i : Nat} {fx : List Bool} {ps qs : List T} {ks : List Key} {l : List D} (hi : ¬ i < n) (h0 : r[i]? = some (.dk ks l)) (hn : n ≤ r.length) (h : outP fx ps (r.set i .un) = qs) : finO n fx ps (.rt (.pl i) r) = some (.ret (.dk ks l), qs) := by
  simp [finO, retW, hi, h0, hn, h]
theorem finVX {n i : Nat} {fx : List Bool} {ps qs : List T} {ks : List (List Key)} {l : List D} (hi : ¬ i < n) (h0 : r[i]? = some (.dt ks l)) (hn : n ≤ r.length) (h : outP fx ps (r.set i .un) = qs) : finO n fx ps (.rt (.pl i) r) = some (.ret (.dt ks l), qs) := by
  simp [finO, retW, hi, h0, hn, h]
end EV
/-! ### keys -/
end Q
set_option Elab.async false
set_option linter.all false
set_option maxRecDepth 100000
set_option maxHeartbeats 2000000
/-! xs.index(x) -/
namespace Q
open PySem PySem.Spec PyProof.Rows L2
variable [TbS]
def dIxA (i : Nat) (f : FD) : ED := fun r => if isLs r[i]? = true then dIxO i f r else dOp gIx (dSh (dVar i)) f r
namespace EV
omit [TbS]
variable {r r1 r2 : Env}
theorem isX {K : PySem.W.Frag} {cv : Value} {f : FD} {c : Addr} {b : Bool} (h : f r = some (.exc c, r1)) (x : ExcC K c) (k : PySem.W.kitOne K (.ref c) cv = some b) : dIsX K cv f r = some (.sh (.bl b), r1) := by
  unfold dIsX; rw [h]; simp only [Option.bind_some, if_pos x, k]
theorem ixAF {i : Nat} {f : FD} {l : List D} {x : Int} {d : D} (h0 : r[i]? = some (.fz (.lst l))) (h1 : f r = some (.int x, r1)) (h3 : L2.atI l x = some d) : dIxA i f r = some (.sh d, r1) := by
  unfold dIxA
  rw [h0]
  simp only [isLs, Bool.false_eq_true, if_false]
  exact EV.ixL (EV.shV h0) h1 h3
theorem raise {c : Addr} : dRaise c r = some (.ex c r) := rfl
end EV
end Q
set_option Elab.async false
set_option linter.all false
set_option maxRecDepth 100000
set_option maxHeartbeats 2000000
/-! rows of bits, and relations of letters by rows -/
namespace Q
open PySem PySem.Spec PyProof.Rows L2
/-! ### rows -/
/-! the words of the language -/
/-! ### relations of n letters -/
abbrev Rl := Nat → Nat → Bool
/-- any number of times -/
inductive Star (n : Nat) (f : Rl) : Nat → Nat → Prop
  | refl (i : Nat) : Star n f i i
  | step {i j k : Nat} : Star n f i j → j < n → k < n → f j k = true → Star n f i k
theorem Star.trans {n : Nat} {f : Rl} {i j k : Nat} (h : Star n f i j) (h2 : Star n f j k) : Star n f i k := by
  induction h2 with
  | refl => exact h
  | step _ a b c ih => exact .step ih a b c
end Q
set_option Elab.async false
set_option linter.all false
set_option maxRecDepth 100000
set_option maxHeartbeats 2000000
/-! dicts told by a list of places and what stands there: roads, and what leads from or to one place -/
namespace Q
open PySem PySem.Spec PyProof.Rows L2
section
variable {α β : Type} [DecidableEq α] [DecidableEq β] {g : α → β} (hg : ∀ a b, g a = g b → a = b)
def putW (W : List α) (w : α) : List α := if w ∈ W then W else W ++ [w]
theorem putW_mem {W : List α} {w a : α} : a ∈ putW W w ↔ a ∈ W ∨ a = w := by
  unfold putW
  split
  · rename_i c
    constructor
    · exact Or.inl
    · rintro (h | rfl)
      · exact h
      · exact c
  · simp
include hg
end
/-! ### roads -/
abbrev Wy := Nat × Nat
/-! ### what leads from a place, or to one -/
end Q
set_option Elab.async false
set_option linter.all false
set_option maxRecDepth 100000
set_option maxHeartbeats 2000000
/-! lists told by their places -/
namespace Q
open PySem PySem.Spec PyProof.Rows L2
/-! ### dicts keyed by tuples of whole numbers -/
end Q
set_option Elab.async false
set_option linter.all false
set_option maxRecDepth 100000
set_option maxHeartbeats 2000000
/-! roads as they are told: nothing where there is no way -/
namespace Q
open PySem PySem.Spec PyProof.Rows L2
theorem nodup_len {α : Type} [DecidableEq α] : ∀ {l m : List α}, l.Nodup → (∀ x ∈ l, x ∈ m) → l.length ≤ m.length
  | [], m, _, _ => Nat.zero_le _
  | a :: l, m, h, hs => by
    obtain ⟨h1, h2⟩ := List.nodup_cons.mp h
    have ha := hs a (by simp)
    have := nodup_len (l := l) (m := m.erase a) h2 fun x hx => (List.mem_erase_of_ne (fun (e : x = a) => h1 (e ▸ hx))).mpr (hs x (by simp [hx]))
    rw [List.length_erase_of_mem ha] at this
    have : 0 < m.length := List.length_pos_of_mem ha
    simp only [List.length_cons]
    omega
theorem nodup_putW {α : Type} [DecidableEq α] {W : List α} {w : α} (h : W.Nodup) : (putW W w).Nodup := by
  unfold putW
  split
  · exact h
  · rename_i c
    rw [List.nodup_append]
    refine ⟨h, by simp, fun a ha b hb => ?_⟩
    simp only [List.mem_singleton] at hb
    subst hb
    intro e
    exact c (e ▸ ha)
structure Bd (W : List Wy) : Prop where
  nd : W.Nodup
  lo : ∀ w ∈ W, w.1 ≤ 5 ∧ w.2 ≤ 5
theorem Bd.nil : Bd [] := ⟨List.nodup_nil, fun _ h => (nomatch h)⟩
theorem Bd.len {W : List Wy} (h : Bd W) : W.length ≤ 36 := by
  have := nodup_len (m := (List.range 6).flatMap fun a => (List.range 6).map fun b => (a, b)) h.nd fun w hw => by
    obtain ⟨h1, h2⟩ := h.lo w hw
    rw [List.mem_flatMap]
    exact ⟨w.1, List.mem_range.mpr (by omega), List.mem_map.mpr ⟨w.2, List.mem_range.mpr (by omega), rfl⟩⟩
  exact Nat.le_trans this (by decide)
theorem Bd.put {W : List Wy} {w : Wy} (h : Bd W) (h1 : w.1 ≤ 5) (h2 : w.2 ≤ 5) : Bd (putW W w) := ⟨nodup_putW h.nd, fun a ha => by
  rcases putW_mem.mp ha with q | rfl
  · exact h.lo a q
  · exact ⟨h1, h2⟩⟩
structure BdS (B : List Nat) : Prop where
  nd : B.Nodup
  lo : ∀ b ∈ B, b ≤ 5
theorem BdS.nil : BdS [] := ⟨List.nodup_nil, fun _ h => (nomatch h)⟩
theorem BdS.len {B : List Nat} (h : BdS B) : B.length ≤ 6 := by
  have := nodup_len (m := List.range 6) h.nd fun b hb => List.mem_range.mpr (by have := h.lo b hb; omega)
  simpa using this
theorem BdS.put {B : List Nat} {b : Nat} (h : BdS B) (h1 : b ≤ 5) : BdS (putW B b) := ⟨nodup_putW h.nd, fun a ha => by
  rcases putW_mem.mp ha with q | rfl
  · exact h.lo a q
  · exact h1⟩
/-! ### x in l, the items data of any depth -/
section
variable [TbS] {K : PySem.W.Frag}
def gInD (neg : Bool) : List D → Option Rs
  | [x, .lst l] => x.py.bind fun d => (pyL l).bind fun ds => if SeqAt.shaped d = true ∧ SeqAt.shaped (.list ds) = true then some (.val (.bl (if neg then !(ds.any fun z => PyData.eqv z d) else ds.any fun z => PyData.eqv z d))) else none
  | _ => none
end
namespace EV
theorem inD {fa fb : FD} {r r1 r2 : Env} {ng b : Bool} {a c : D} (h1 : fa r = some (a, r1)) (h2 : fb r1 = some (c, r2)) (h3 : gInD ng [a, c] = some (.val (.bl b))) : dOp (gInD ng) fa fb r = some (.sh (.bl b), r2) := opW h1 h2 h3
end EV
end Q
set_option Elab.async false
set_option linter.all false
set_option maxRecDepth 100000
set_option maxHeartbeats 2000000
/-! any(elt for tg in iter) -/
namespace Q
open PySem PySem.Spec PyProof.Rows L2 GxR
end Q
namespace Q
open PySem PySem.Spec PyProof.Rows L2
end Q
set_option Elab.async false
set_option linter.all false
set_option maxRecDepth 100000
set_option maxHeartbeats 3200000
/-! set(xs), xs a list of tuples of whole numbers in which few are unlike: the list may be long -/
namespace RSet
open PySem PySem.Spec PyProof.Rows L2
end RSet
namespace RSet
open PySem PySem.Spec PyProof.Rows L2
end RSet
namespace Q
open PySem PySem.Spec PyProof.Rows L2 RSet
variable [TbS]
/-- sorted(set(xs)), xs as long as one likes, few unlike -/
def gSSL : D → Option (List D)
  | .lst l => (tupsI l).bind fun ks => if (sortI ks).length < 63 ∧ (ks.all fun k => k.length == (ks.headD [0]).length && decide (0 < k.length)) = true then some ((sortI ks).map tupD) else none
  | _ => none
def dSSL (f : FD) : ED := fun r => (f r).bind fun p => (gSSL p.1).bind fun l => some ((Rs.newL l).w, p.2)
end Q
namespace Q
open PySem PySem.Spec PyProof.Rows L2
namespace EV
theorem ssL {r r1 : Env} {f : FD} {a : D} {l : List D} (h1 : f r = some (a, r1)) (h2 : gSSL a = some l) : dSSL f r = some (.nw (.ls (l.map .fz)), r1) := by unfold dSSL; rw [h1]; simp only [Option.bind_some, h2]; rfl
end EV
end Q
set_option Elab.async false
set_option linter.all false
set_option maxRecDepth 100000
set_option maxHeartbeats 3200000
/-! name.insert(i, e), i from 0 to the list's length -/
namespace Q
open PySem PySem.Spec PyProof.Rows L2
section
variable [TbS]
section
variable {K : PySem.W.Frag} {F : Fx} {G H : Hp} {r : List T} {x : List (Option V)}
theorem SI.ins {t : T} {v : V} (I : SI K F G H (r ++ [t]) (x ++ [some v])) (hl : r.length = x.length) {i : Nat} {l : List T} (e : r[i]? = some (.ls l)) (k : Nat) :
    ∃ a vs, x[i]? = some (some (.ref a)) ∧ H a = some (.lst vs) ∧ l.length = vs.length ∧ SI K F G (upd H a (.lst (vs.take k ++ v :: vs.drop k))) (r.set i (.ls (l.take k ++ t :: l.drop k))) x := by
  obtain ⟨a, vs, e1, e2, e3, ge, gt, c1, c2, c3, fin⟩ := I.relist hl e
  refine ⟨a, vs, e1, e2, e3, ?_⟩
  have c1' : RtL K G H (l.take k ++ l.drop k) ((vs.take k).map some ++ (vs.drop k).map some) ge := by
    rw [List.take_append_drop, ← List.map_append, List.take_append_drop]
    exact c1
  obtain ⟨g1, g2, k1, k2, k3, k4, k5⟩ := c1'.split (by simp [e3])
  have m : RtL K G H (l.take k ++ ([t] ++ l.drop k)) ((vs.take k).map some ++ ([some v] ++ (vs.drop k).map some)) (fun b => g1 b ∨ (gt b ∨ g2 b)) :=
    RtL.app (RtL.app k2 c2 fun b hb z => c3 b (k4 b z) hb) k1 fun b hb z => z.elim (fun w => c3 b (k3 b hb) w) fun w => k5 b hb w
  have key := fin (l.take k ++ t :: l.drop k) (vs.take k ++ v :: vs.drop k) [] [] (fun b => g1 b ∨ (gt b ∨ g2 b)) (fun _ => False) (by rw [List.map_append, List.map_cons]; exact m) .nil (fun b hb => hb.elim (fun w => Or.inl (k3 b w)) fun w => w.elim Or.inr fun w => Or.inl (k4 b w)) (fun b hb => hb.elim) (fun b _ z => z)
  simpa only [List.append_nil] using key
end
def dInsert (i : Nat) (g : FD) (f : MD) : ED := fun r => if isLs r[i]? = true then (g r).bind fun q => match q.1 with
  | .int n => (f q.2).bind fun p => match p.2[i]? with
    | some (.ls l) => if 0 ≤ n ∧ n.toNat ≤ l.length ∧ l.length < 1000000 then some (.sh .non, p.2.set i (.ls (l.take n.toNat ++ p.1 :: l.drop n.toNat))) else none
    | _ => none
  | _ => none
  else none
namespace EV
omit [TbS] in
theorem insE {r r0 r1 r2 : Env} {i k : Nat} {g : FD} {f : MD} {M : List D} {d : D} (hi : r[i]? = some (.ls (M.map .fz))) (h0 : g r = some (.int (k : Int), r0)) (h1 : f r0 = some (.fz d, r1)) (h2 : r1[i]? = some (.ls (M.map .fz))) (hk : k ≤ M.length) (hl : M.length < 1000000)
    (hs : r1.set i (.ls ((M.take k ++ d :: M.drop k).map .fz)) = r2) : dInsert i g f r = some (.sh .non, r2) := by
  unfold dInsert
  rw [if_pos (by rw [hi]; rfl), h0]
  show (f r0).bind _ = _
  rw [h1]
  show (match r1[i]? with | some (.ls l) => _ | _ => none) = _
  rw [h2]
  show (if _ then _ else _) = _
  rw [if_pos ⟨by omega, by rw [List.length_map, Int.toNat_natCast]; exact hk, by rw [List.length_map]; exact hl⟩, ← hs, Int.toNat_natCast, List.map_append, List.map_cons, List.map_take, List.map_drop]
end EV
end
end Q
set_option Elab.async false
set_option linter.all false
set_option maxRecDepth 100000
set_option maxHeartbeats 2000000
/-! a dict comprehension over an own list, which stays own -/
namespace Q
open PySem PySem.Spec PyProof.Rows L2
end Q
set_option Elab.async false
set_option linter.all false
set_option maxRecDepth 100000
set_option maxHeartbeats 2000000
/-! a search by the fewest steps: letters in the order in which they are found, each with the ones ahead of it -/
namespace Q.BF
variable {α : Type} [DecidableEq α]
/-- a way to a letter, the ones ahead of it last first -/
inductive Rw (nx : α → List α) (st : List α) : α → List α → Prop
  | st {y : α} : y ∈ st → Rw nx st y []
  | nx {y z : α} {p : List α} : Rw nx st y p → z ∈ nx y → Rw nx st z (y :: p)
def grow (y : α) (p : List α) : List α → List (α × List α) → List (α × List α)
  | [], R => R
  | z :: zs, R => if z ∈ R.map (·.1) then grow y p zs R else grow y p zs (R ++ [(z, y :: p)])
theorem grow_eq (y : α) (p : List α) : ∀ (zs : List α) (R : List (α × List α)), ∃ N : List α, grow y p zs R = R ++ N.map (fun z => (z, y :: p)) ∧ N.Nodup ∧ (∀ z ∈ N, z ∈ zs ∧ z ∉ R.map (·.1)) ∧ ∀ z ∈ zs, z ∈ R.map (·.1) ∨ z ∈ N
  | [], R => ⟨[], by simp [grow], List.nodup_nil, by simp, by simp⟩
  | z :: zs, R => by
    by_cases h : z ∈ R.map (·.1)
    · obtain ⟨N, e, n1, n2, n3⟩ := grow_eq y p zs R
      refine ⟨N, by rw [grow, if_pos h]; exact e, n1, fun w hw => ⟨List.mem_cons_of_mem _ (n2 w hw).1, (n2 w hw).2⟩, fun w hw => ?_⟩
      rcases List.mem_cons.mp hw with rfl | hw
      · exact Or.inl h
      · exact n3 w hw
    · obtain ⟨N, e, n1, n2, n3⟩ := grow_eq y p zs (R ++ [(z, y :: p)])
      have m : ∀ w, w ∈ (R ++ [(z, y :: p)]).map (·.1) ↔ w ∈ R.map (·.1) ∨ w = z := fun w => by simp [List.map_append]
      refine ⟨z :: N, by rw [grow, if_neg h, e]; simp, List.nodup_cons.mpr ⟨fun hz => (n2 z hz).2 ((m z).mpr (Or.inr rfl)), n1⟩, fun w hw => ?_, fun w hw => ?_⟩
      · rcases List.mem_cons.mp hw with rfl | hw
        · exact ⟨by simp, h⟩
        · exact ⟨List.mem_cons_of_mem _ (n2 w hw).1, fun z => (n2 w hw).2 ((m w).mpr (Or.inl z))⟩
      · rcases List.mem_cons.mp hw with rfl | hw
        · exact Or.inr (by simp)
        · rcases n3 w hw with q | q
          · rcases (m w).mp q with q | rfl
            · exact Or.inl q
            · exact Or.inr (by simp)
          · exact Or.inr (List.mem_cons_of_mem _ q)
structure Iv (nx : α → List α) (st go : List α) (t : Nat) (R : List (α × List α)) : Prop where
  nd : (R.map (·.1)).Nodup
  s0 : ∀ y ∈ st, (y, []) ∈ R
  rt : ∀ q ∈ R, Rw nx st q.1 q.2
  pr : ∀ q ∈ R, ∀ y p, q.2 = y :: p → (y, p) ∈ R
  dn : ∀ k, k < t → ∀ q : α × List α, R[k]? = some q → q.1 ∉ go ∧ ∀ z ∈ nx q.1, ∃ p, (z, p) ∈ R ∧ p.length ≤ q.2.length + 1
  mo : ∀ (i j : Nat) (a b : α × List α), i ≤ j → R[i]? = some a → R[j]? = some b → a.2.length ≤ b.2.length
  up : ∀ (a b : α × List α), R[t]? = some a → b ∈ R → b.2.length ≤ a.2.length + 1
  ln : ∀ (k : Nat) (q : α × List α), R[k]? = some q → q.2.length ≤ k
  tl : t ≤ R.length
theorem Iv.start {nx : α → List α} {st go : List α} (h : st.Nodup) : Iv nx st go 0 (st.map fun y => (y, [])) := by
  have m : ∀ q ∈ st.map (fun y => (y, ([] : List α))), q.1 ∈ st ∧ q.2 = [] := fun q hq => by
    obtain ⟨y, hy, rfl⟩ := List.mem_map.mp hq
    exact ⟨hy, rfl⟩
  have g : ∀ (k : Nat) q, (st.map (fun y => (y, ([] : List α))))[k]? = some q → q.2 = [] := fun k q e => (m q (List.mem_of_getElem? e)).2
  refine ⟨?_, fun y hy => List.mem_map.mpr ⟨y, hy, rfl⟩, fun q hq => ?_, fun q hq y p e => ?_, fun k hk => absurd hk (by omega), fun i j a b _ ha hb => ?_, fun a b ha hb => ?_, fun k q e => ?_, Nat.zero_le _⟩
  · rw [List.map_map]
    show (st.map fun y => y).Nodup
    rw [List.map_id']; exact h
  · rw [(m q hq).2]; exact .st (m q hq).1
  · rw [(m q hq).2] at e; cases e
  · rw [g i a ha]; exact Nat.zero_le _
  · rw [(m b hb).2]; exact Nat.zero_le _
  · rw [g k q e]; exact Nat.zero_le _
theorem Iv.step {nx : α → List α} {st go : List α} {t : Nat} {R : List (α × List α)} (I : Iv nx st go t R) {q : α × List α} (e : R[t]? = some q) (ng : q.1 ∉ go) : Iv nx st go (t + 1) (grow q.1 q.2 (nx q.1) R) := by
  obtain ⟨N, eN, n1, n2, n3⟩ := grow_eq q.1 q.2 (nx q.1) R
  rw [eN]
  have qR : q ∈ R := List.mem_of_getElem? e
  have tl : t < R.length := (List.getElem?_eq_some_iff.mp e).1
  have old : ∀ {k : Nat} {a : α × List α}, (R ++ N.map fun z => (z, q.1 :: q.2))[k]? = some a → (k < R.length ∧ R[k]? = some a) ∨ (R.length ≤ k ∧ a.2 = q.1 :: q.2) := fun {k a} h => by
    by_cases c : k < R.length
    · rw [List.getElem?_append_left c] at h
      exact Or.inl ⟨c, h⟩
    · rw [List.getElem?_append_right (by omega)] at h
      obtain ⟨z, _, rfl⟩ := List.mem_map.mp (List.mem_of_getElem? h)
      exact Or.inr ⟨by omega, rfl⟩
  have ml : ∀ b ∈ R ++ N.map (fun z => (z, q.1 :: q.2)), b.2.length ≤ q.2.length + 1 := fun b hb => by
    rcases List.mem_append.mp hb with hb | hb
    · exact I.up q b e hb
    · obtain ⟨z, _, rfl⟩ := List.mem_map.mp hb
      simp
  have mono : ∀ (i j : Nat) (a b : α × List α), i ≤ j → (R ++ N.map fun z => (z, q.1 :: q.2))[i]? = some a → (R ++ N.map fun z => (z, q.1 :: q.2))[j]? = some b → a.2.length ≤ b.2.length := fun i j a b hij ha hb => by
    rcases old hb with ⟨bl, hb⟩ | ⟨bl, hb⟩
    · rcases old ha with ⟨al, ha⟩ | ⟨al, ha⟩
      · exact I.mo i j a b hij ha hb
      · omega
    · rw [hb, List.length_cons]
      exact ml a (List.mem_of_getElem? ha)
  refine ⟨?_, fun y hy => List.mem_append_left _ (I.s0 y hy), fun a ha => ?_, fun a ha y p ea => ?_, fun k hk a ha => ?_, mono, fun a b ha hb => ?_, fun k a ha => ?_, by rw [List.length_append]; omega⟩
  · rw [List.map_append, List.map_map]
    have : (N.map ((·.1) ∘ fun z => (z, q.1 :: q.2))) = N := by
      show (N.map fun z => z) = N
      rw [List.map_id']
    rw [this]
    exact List.nodup_append.mpr ⟨I.nd, n1, fun a ha b hb z => (n2 b hb).2 (z ▸ ha)⟩
  · rcases List.mem_append.mp ha with ha | ha
    · exact I.rt a ha
    · obtain ⟨z, hz, rfl⟩ := List.mem_map.mp ha
      exact .nx (I.rt q qR) (n2 z hz).1
  · rcases List.mem_append.mp ha with ha | ha
    · exact List.mem_append_left _ (I.pr a ha y p ea)
    · obtain ⟨z, hz, rfl⟩ := List.mem_map.mp ha
      cases ea
      exact List.mem_append_left _ qR
  · have hk2 : k < R.length := by omega
    rw [List.getElem?_append_left hk2] at ha
    by_cases c : k < t
    · obtain ⟨h1, h2⟩ := I.dn k c a ha
      refine ⟨h1, fun z hz => ?_⟩
      obtain ⟨p, h3, h4⟩ := h2 z hz
      exact ⟨p, List.mem_append_left _ h3, h4⟩
    · have : k = t := by omega
      subst this
      rw [e] at ha
      cases ha
      refine ⟨ng, fun z hz => ?_⟩
      rcases n3 z hz with h | h
      · obtain ⟨b, hb, rfl⟩ := List.mem_map.mp h
        exact ⟨b.2, List.mem_append_left _ hb, I.up q b e hb⟩
      · exact ⟨q.1 :: q.2, List.mem_append_right _ (List.mem_map.mpr ⟨z, h, rfl⟩), by simp⟩
  · have h1 := ml b hb
    have h2 := mono t (t + 1) q a (by omega) (by rw [List.getElem?_append_left tl]; exact e) ha
    omega
  · rcases old ha with ⟨al, ha⟩ | ⟨al, ha⟩
    · exact I.ln k a ha
    · have := I.ln t q e
      rw [ha, List.length_cons]; omega
/-! ### lot by lot -/
end Q.BF
set_option Elab.async false
set_option linter.all false
set_option maxRecDepth 100000
set_option maxHeartbeats 2000000
/-! x is True, x is not True, where x is a truth -/
namespace Q
open PySem PySem.Spec PyProof.Rows L2
end Q
set_option Elab.async false
set_option linter.all false
set_option maxRecDepth 100000
set_option maxHeartbeats 2000000
namespace Q
open PySem PySem.Spec PyProof.Rows L2
/-! ### a target that is a field -/
def gFld (K : PySem.W.Frag) (to : TE) (f : Str) : TG := fun v σ H Q => to σ H fun x H1 => ∃ a C dx fs, x = .ref a ∧ H1 a = some (.ins C dx fs) ∧ Cls K C ∧ NoAttr K C f ∧ fs.length < 1000 ∧ Q σ (upd H1 a (.ins C dx (putF f v fs)))
variable [TbS]
/-! ### ways into a thing -/
inductive Pe where
  | fld (f : Str) | ix (j : Nat)
abbrev Pt := List Pe
def T.sub : T → Pt → Option T
  | t, [] => some t
  | .ls l, .ix j :: p => (l[j]?).bind fun u => u.sub p
  | .tp l, .ix j :: p => (l[j]?).bind fun u => u.sub p
  | .ob _ ns l, .fld f :: p => (l[ns.idxOf f]?).bind fun u => u.sub p
  | _, _ => none
def T.put (u : T) : T → Pt → T
  | _, [] => u
  | .ls l, .ix j :: p => match l[j]? with
    | some k => .ls (l.set j (T.put u k p))
    | none => .ls l
  | .tp l, .ix j :: p => match l[j]? with
    | some k => .tp (l.set j (T.put u k p))
    | none => .tp l
  | .ob C ns l, .fld f :: p => match l[ns.idxOf f]? with
    | some k => .ob C ns (l.set (ns.idxOf f) (T.put u k p))
    | none => .ob C ns l
  | t, _ => t
def KidV (K : PySem.W.Frag) (H : Hp) (a : Addr) : Pe → V → Prop
  | .ix j, v => ∃ vs, (H a = some (.lst vs) ∨ H a = some (.tup vs)) ∧ vs[j]? = some v
  | .fld f, v => ∃ C dx fs, H a = some (.ins C dx fs) ∧ Cls K C ∧ NoAttr K C f ∧ fs.lookup f = some v
def PV (K : PySem.W.Frag) (H : Hp) : V → Pt → V → Prop
  | x, [], y => x = y
  | x, e :: p, y => ∃ a z, x = .ref a ∧ KidV K H a e z ∧ PV K H z p y
theorem PV.snoc {K : PySem.W.Frag} {H : Hp} {e : Pe} {y : V} : ∀ {p : Pt} {x : V}, PV K H x (p ++ [e]) y → ∃ a, PV K H x p (.ref a) ∧ KidV K H a e y
  | [], x, ⟨a, z, e1, e2, e3⟩ => ⟨a, e1, by cases (show z = y from e3); exact e2⟩
  | q :: p, x, ⟨a, z, e1, e2, e3⟩ => by
    obtain ⟨b, h1, h2⟩ := PV.snoc (p := p) e3
    exact ⟨b, ⟨a, z, e1, e2, h1⟩, h2⟩
end Q
set_option Elab.async false
set_option linter.all false
set_option maxRecDepth 100000
set_option maxHeartbeats 2000000
namespace Q
open PySem PySem.Spec PyProof.Rows L2
variable [TbS]
/-! ### the way as an expression -/
section
variable {K : PySem.W.Frag}
/-- what stands there, shared from now on -/
def dGetP (i : Nat) (p : Pt) : FD := fun r => (r[i]?).bind fun t0 => (t0.sub p).bind fun t => t.data.bind fun d => some (d, r.set i (T.put (.fz d) t0 p))
theorem PV.keep {H H' : Hp} {tm : List T} {us : List (Option V)} {F : Fx} {G : Hp} {r : List T} {s : L2.St} : True := trivial
/-- name.f.append(e): what is added is made while the name's own thing is set aside -/
def dAppendP (i : Nat) (p : Pt) (f : MD) : ED := fun r => (r[i]?).bind fun t0 => match t0.sub p with
  | some (.ls l) => (f (r.set i .un)).bind fun q => match q.2[i]? with
    | some .un => if l.length < 1000000 then some (.sh .non, q.2.set i (T.put (.ls (l ++ [q.1])) t0 p)) else none
    | _ => none
  | _ => none
theorem set_set {α : Type} {l : List α} {i : Nat} {a b : α} : (l.set i a).set i b = l.set i b := List.set_set ..
/-- name.f.pop() -/
def dPopP (i : Nat) (p : Pt) : ED := fun r => (r[i]?).bind fun t0 => match t0.sub p with
  | some (.ls l) => (l.getLast?).bind fun t => some (resW t, r.set i (T.put (.ls l.dropLast) t0 p))
  | _ => none
end
end Q
set_option Elab.async false
set_option linter.all false
set_option maxRecDepth 100000
set_option maxHeartbeats 2000000
namespace Q
open PySem PySem.Spec PyProof.Rows L2
variable [TbS]
section
variable {K : PySem.W.Frag}
/-- e in name.f, e not in name.f, of a dict -/
def dInP (ng : Bool) (f : FD) (i : Nat) (p : Pt) : ED := fun r => (f r).bind fun q => (q.2[i]?).bind fun t0 => (t0.sub p).bind fun t => (getT t q.1).bind fun od => some (.sh (.bl (if ng = true then !od.isSome else od.isSome)), q.2)
/-- name.f[e] of a dict: the key is told while the name's own thing is set aside -/
def dGetDP (i : Nat) (p : Pt) (f : FD) : ED := fun r => (r[i]?).bind fun t0 => (t0.sub p).bind fun t => (f (r.set i .un)).bind fun q => match q.2[i]? with
  | some .un => (getT t q.1).bind fun od => od.map fun d => (.sh d, q.2.set i t0)
  | _ => none
/-- name.f[k] = worth, of an own dict -/
def gdDkP (i : Nat) (p : Pt) (f : FD) : GD := fun r t => match t with
  | .fz d => (r[i]?).bind fun t0 => (t0.sub p).bind fun t1 => (f (r.set i .un)).bind fun q => match q.2[i]? with
    | some .un => (putT t1 q.1 d).map fun t' => q.2.set i (T.put t' t0 p)
    | _ => none
  | _ => none
/-! ### a field is set -/
def putN (ns : List Str) (f : Str) : List Str := if f ∈ ns then ns else ns ++ [f]
def putL (ns : List Str) (l : List T) (f : Str) (t : T) : List T := if f ∈ ns then l.set (ns.idxOf f) t else l ++ [t]
/-- name.f = worth -/
def gdFld (C : Addr) (i : Nat) (f : Str) : GD := fun r t => match r[i]? with
  | some (.ob C' ns l) => if C' = C ∧ ns.length < 900 then some (r.set i (.ob C (putN ns f) (putL ns l f t))) else none
  | _ => none
end
end Q
set_option Elab.async false
set_option linter.all false
set_option maxRecDepth 100000
set_option maxHeartbeats 2000000
namespace Q
open PySem PySem.Spec PyProof.Rows L2
variable [TbS]
/-! ### methods -/
section
variable {K : PySem.W.Frag}
def isOb (C : Addr) (m : Str) : Option T → Bool
  | some (.ob C' ns _) => C' == C && !(ns.contains m)
  | _ => false
/-- name.m(..), where nothing is raised -/
def dMeth (C : Addr) (m : Str) (fn : FnT) (i : Nat) (f : AD) : ED := fun r => if isOb C m r[i]? = true then dCall fn (daCons (dVar i) f) r else none
/-- the same of which a refusal may come -/
def dMethX (C : Addr) (m : Str) (fn : FnT) (i : Nat) (f : AD) : XD := fun r => if isOb C m r[i]? = true then dCallX fn (daCons (dVar i) f) r else none
end
/-! ### a new object -/
section
variable {K : PySem.W.Frag}
/-- C(..) -/
def dMake (C : Addr) (fn : FnT) (f : AD) : ED := fun r => (f r).bind fun p => (pars p.2 p.1).bind fun q => (fn (.ob C [] [] :: q.1)).bind fun z => match z.1, z.2 with
  | .ret (.fz .non), .ob C' ns l :: ps => if ps.length = p.1.length then some (.nw (.ob C' ns l), back q.2 p.1 ps) else none
  | _, _ => none
end
end Q
set_option Elab.async false
set_option linter.all false
set_option maxRecDepth 100000
set_option maxHeartbeats 2000000
namespace Q
open PySem PySem.Spec PyProof.Rows L2
namespace EV
variable {r r1 r2 r3 : Env}
theorem tupO {f : MDs} {l : List T} (h : f r = some (l, r1)) (hl : l.length ≤ 1000000) : dTupO f r = some (.nw (.tp l), r1) := by
  unfold dTupO; rw [h]; simp [hl]
theorem callG {fn : FnT} {f : AD} {ws : List W} {ps qs ps' : List T} {t : T} {w : W} (h1 : f r = some (ws, r1)) (h2 : pars r1 ws = some (ps, r2)) (hq : ps = qs) (h3 : fn qs = some (.ret t, ps')) (hw : resW t = w) (h4 : ps'.length = ws.length) (h5 : back r2 ws ps' = r3) : dCall fn f r = some (w, r3) := by
  subst hq hw; simp [dCall, h1, h2, h3, h4, h5]
theorem callXG {fn : FnT} {f : AD} {ws : List W} {ps qs ps' : List T} {t : T} {w : W} (h1 : f r = some (ws, r1)) (h2 : pars r1 ws = some (ps, r2)) (hq : ps = qs) (h3 : fn qs = some (.ret t, ps')) (hw : resW t = w) (h4 : ps'.length = ws.length) (h5 : back r2 ws ps' = r3) : dCallX fn f r = some (.inl w, r3) := by
  subst hq hw; simp [dCallX, h1, h2, h3, h4, h5]
/-- what stands in a field, shared -/
theorem getP {i : Nat} {p : Pt} {t0 t : T} {d : D} (h0 : r[i]? = some t0) (h1 : t0.sub p = some t) (h2 : t.data = some d) (hs : r.set i (T.put (.fz d) t0 p) = r1) : dGetP i p r = some (d, r1) := by
  unfold dGetP; rw [h0]; simp [h1, h2, hs]
theorem appP {i : Nat} {p : Pt} {f : MD} {t0 t : T} {l : List T} (h0 : r[i]? = some t0) (h1 : t0.sub p = some (.ls l)) (hs : r.set i .un = r1) (h2 : f r1 = some (t, r2)) (h3 : r2[i]? = some .un) (hl : l.length < 1000000) (h4 : r2.set i (T.put (.ls (l ++ [t])) t0 p) = r3) : dAppendP i p f r = some (.sh .non, r3) := by
  unfold dAppendP; rw [h0]; simp [h1, hs, h2, h3, hl, h4]
theorem popP {i : Nat} {p : Pt} {t0 t : T} {l : List T} {w : W} (h0 : r[i]? = some t0) (h1 : t0.sub p = some (.ls (l ++ [t]))) (hw : resW t = w) (hs : r.set i (T.put (.ls l) t0 p) = r1) : dPopP i p r = some (w, r1) := by
  unfold dPopP; rw [h0]; simp [h1, hw, hs]
theorem inP {i : Nat} {p : Pt} {f : FD} {ng b : Bool} {t0 t : T} {kd : D} {od : Option D} (h1 : f r = some (kd, r1)) (h0 : r1[i]? = some t0) (h2 : t0.sub p = some t) (h3 : getT t kd = some od) (hb : (if ng = true then !od.isSome else od.isSome) = b) : dInP ng f i p r = some (.sh (.bl b), r1) := by
  subst hb
  simp [dInP, h1, h0, h2, h3]
theorem getDP {i : Nat} {p : Pt} {f : FD} {t0 t : T} {kd d : D} (h0 : r[i]? = some t0) (h1 : t0.sub p = some t) (hs : r.set i .un = r1) (h2 : f r1 = some (kd, r2)) (h3 : r2[i]? = some .un) (h4 : getT t kd = some (some d)) (h5 : r2.set i t0 = r3) : dGetDP i p f r = some (.sh d, r3) := by
  unfold dGetDP; rw [h0]; simp [h1, hs, h2, h3, h4, h5]
theorem gDkP {i : Nat} {p : Pt} {f : FD} {t0 t t' : T} {kd d : D} (h0 : r[i]? = some t0) (h1 : t0.sub p = some t) (hs : r.set i .un = r1) (h2 : f r1 = some (kd, r2)) (h3 : r2[i]? = some .un) (h4 : putT t kd d = some t') (h5 : r2.set i (T.put t' t0 p) = r3) : gdDkP i p f r (.fz d) = some r3 := by
  show (r[i]?).bind _ = _
  rw [h0]; simp [h1, hs, h2, h3, h4, h5]
theorem gFld {C : Addr} {i : Nat} {f : Str} {t : T} {ns : List Str} {l : List T} (h0 : r[i]? = some (.ob C ns l)) (hn : ns.length < 900) (hs : r.set i (.ob C (putN ns f) (putL ns l f t)) = r1) : gdFld C i f r t = some r1 := by
  unfold gdFld; rw [h0]; simp [hn, hs]
theorem meth {C : Addr} {m : Str} {fn : FnT} {i : Nat} {f : AD} {ns : List Str} {l : List T} {z : Option (W × Env)} (h0 : r[i]? = some (.ob C ns l)) (hm : ns.contains m = false) (h : dCall fn (daCons (dVar i) f) r = z) : dMeth C m fn i f r = z := by
  subst h
  unfold dMeth; rw [h0]; simp only [isOb, beq_self_eq_true, hm, Bool.not_false, Bool.and_true, if_true]
theorem methX {C : Addr} {m : Str} {fn : FnT} {i : Nat} {f : AD} {ns : List Str} {l : List T} {z : Option (Sum W Addr × Env)} (h0 : r[i]? = some (.ob C ns l)) (hm : ns.contains m = false) (h : dCallX fn (daCons (dVar i) f) r = z) : dMethX C m fn i f r = z := by
  subst h
  unfold dMethX; rw [h0]; simp only [isOb, beq_self_eq_true, hm, Bool.not_false, Bool.and_true, if_true]
theorem varO {i : Nat} {C : Addr} {ns : List Str} {l : List T} (h : r[i]? = some (.ob C ns l)) : dVar i r = some (.pl i, r) := by unfold dVar; rw [h]
theorem varP {i : Nat} {l : List T} (h : r[i]? = some (.tp l)) : dVar i r = some (.pl i, r) := by unfold dVar; rw [h]
theorem make {C C' : Addr} {fn : FnT} {f : AD} {ws : List W} {ps qs ps' : List T} {ns : List Str} {l : List T} (h1 : f r = some (ws, r1)) (h2 : pars r1 ws = some (ps, r2)) (hq : ps = qs) (h3 : fn (.ob C [] [] :: qs) = some (.ret (.fz .non), .ob C' ns l :: ps')) (h4 : ps'.length = ws.length) (h5 : back r2 ws ps' = r3) : dMake C fn f r = some (.nw (.ob C' ns l), r3) := by
  subst hq
  unfold dMake; rw [h1]; simp [h2, h3, h4, h5]
/-- an own tuple is shared -/
theorem shTp {i : Nat} {l : List T} {ds : List D} (h : r[i]? = some (.tp l)) (hd : dataL l = some ds) (hs : r.set i (.fz (.tup ds)) = r1) : dSh (dVar i) r = some (.tup ds, r1) := by
  unfold dSh
  rw [varP h]
  show share r (.pl i) = _
  unfold share
  simp [h, T.data, hd, hs]
end EV
end Q
set_option Elab.async false
set_option linter.all false
set_option maxRecDepth 100000
set_option maxHeartbeats 2000000
namespace Q
open PySem PySem.Spec PyProof.Rows L2
/-! ### a comprehension over zip of a shared list and an own one, whose things are moved -/
end Q
set_option Elab.async false
set_option linter.all false
set_option maxRecDepth 100000
set_option maxHeartbeats 2000000
namespace Q
open PySem PySem.Spec PyProof.Rows L2
/-! ### for x in name: the list's own things are changed in their places -/
end Q
set_option Elab.async false
set_option linter.all false
set_option maxRecDepth 100000
set_option maxHeartbeats 2000000
/-! dicts whose keys are tuples within tuples, with own things as values -/
namespace Q
open PySem PySem.Spec PyProof.Rows L2
abbrev KXN : KN → List (NestedKey × Addr × Value) → Prop := Paired fun p q => p.1 = q.1 ∧ p.2.1 = q.2.1 ∧ RelV p.2.2 q.2.2
def valN (kas : KN) (k : NestedKey) : Option V := (kas.find? fun p => decide (p.1 = k)).map (·.2.2)
def putNk (kas : KN) (k : NestedKey) (b : Addr) (v : V) : KN := if (valN kas k).isSome = true then kas.map (fun p => if p.1 = k then (p.1, p.2.1, v) else p) else kas ++ [(k, b, v)]
theorem valN_pos {p : NestedKey × Addr × V} {kas : KN} {k : NestedKey} (e : p.1 = k) : valN (p :: kas) k = some p.2.2 := by
  unfold valN
  rw [List.find?_cons_of_pos (by simpa using e)]
  rfl
theorem valN_neg {p : NestedKey × Addr × V} {kas : KN} {k : NestedKey} (e : ¬ p.1 = k) : valN (p :: kas) k = valN kas k := by
  unfold valN
  rw [List.find?_cons_of_neg (by simpa using e)]
theorem KXN.val {kas : KN} {xs : List (NestedKey × Addr × Value)} (r : KXN kas xs) (k : NestedKey) : RelO (valN kas k) ((atKey xs k).map (·.2)) := by
  induction r with
  | nil => exact True.intro
  | @cons p q ps qs h t ih =>
    obtain ⟨h1, _, h2⟩ := h
    by_cases e : p.1 = k
    · have e' : q.1 = k := h1.symm.trans e
      have b : atKey (q :: qs) k = some q.2 := by simp [atKey, List.find?_cons, e']
      rw [valN_pos e, b]; exact h2
    · have e' : ¬ q.1 = k := fun z => e (h1.trans z)
      have b : atKey (q :: qs) k = atKey qs k := by simp [atKey, List.find?_cons, e']
      rw [valN_neg e, b]; exact ih
theorem KXN.put {kas : KN} {xs : List (NestedKey × Addr × Value)} (r : KXN kas xs) (k : NestedKey) (b : Addr) {y : V} {u : Value} (ry : RelV y u) : KXN (putNk kas k b y) (storedH xs k b u) := by
  have e : (valN kas k).isSome = (atKey xs k).isSome := by rw [(r.val k).isSome_eq, Option.isSome_map]
  unfold putNk storedH
  rw [e]
  by_cases q : (atKey xs k).isSome = true
  · rw [if_pos q, if_pos q]
    clear e q
    induction r with
    | nil => exact .nil
    | @cons p q ps qs h t ih =>
      rw [List.map_cons, List.map_cons]
      refine .cons ?_ ih
      obtain ⟨h1, h2, h3⟩ := h
      unfold putAt
      by_cases e : p.1 = k
      · rw [if_pos e, if_pos (h1.symm.trans e)]; exact ⟨h1, h2, ry⟩
      · rw [if_neg e, if_neg (fun z => e (h1.trans z))]; exact ⟨h1, h2, h3⟩
  · rw [if_neg q, if_neg q]; exact Paired.snoc r ⟨rfl, rfl, ry⟩
/-- the dict at a, its object o -/
def DN0 (P : Program) (w : World) (h : Heap) (a : Addr) (o : Obj) (kas : KN) : Prop := h.get? a = some o ∧ kas.length ≤ sizeLine ∧ (a == sysModules) = false ∧ (∀ p ∈ kas, p.1.depth ≤ 8) ∧ ∃ xs, KXN kas xs ∧ ∃ es ep, o.ExactDict ∧ o.data = .dict es ep ∧ es.toList = xs.map (entryOfKey (nestedKind P w)) ∧ (xs.map (·.1)).Nodup
def DNw (P : Program) (w : World) (a : Addr) (o : Obj) (kas : KN) : HO := .ext fun h => DN0 P w h a o kas
end Q
set_option Elab.async false
set_option linter.all false
set_option maxRecDepth 100000
set_option maxHeartbeats 2000000
/-! list comprehensions of any number of clauses -/
namespace RCn
open PySem PySem.Spec PyProof.Rows L2
/-- what stands behind a clause's tests: the next clause, or the element -/
def body (elt : Expr) (gens : List Comprehension) (scope : Scope) (pos : Pos) (k : Nat) (acc : Value) (env : Env) (fin : Sem Fin) : Sem Fin :=
  match gens[k]? with
  | some g => do
    let x ← eval g.iter env
    standAt g.iter.pos
    let x ← foldedSetIterable g.iter env x
    let _ ← runOwn (.compStart (.ListComp elt gens scope pos) k (← holding [x] (pyIter x)) acc env) env
    fin
  | none => do
    (do let _ ← call (.builtin "list.append") [acc, ← eval elt env])
    fin
def Knows (b σ : L2.St) : Prop := b.length = σ.length ∧ ∀ (j : Nat) v, b[j]? = some (some v) → σ[j]? = some (some v)
theorem Knows.refl (b : L2.St) : Knows b b := ⟨rfl, fun _ _ e => e⟩
theorem Knows.trans {a b c : L2.St} (h : Knows a b) (k : Knows b c) : Knows a c := ⟨h.1.trans k.1, fun j v e => k.2 j v (h.2 j v e)⟩
end RCn
set_option Elab.async false
set_option linter.all false
set_option maxRecDepth 100000
set_option maxHeartbeats 2000000
/-! what a comprehension of any number of clauses is worth -/
namespace Q
open PySem PySem.Spec PyProof.Rows L2
variable [TbS]
section
variable {K : PySem.W.Frag}
def loopC (h : GD) (b : BD) (own : List Nat) (body : Env → List T → Option (List T × Env)) : List D → Env → List T → Option (List T × Env)
  | [], r, acc => some (acc, r)
  | d :: l, r, acc => (h (wipeT r own) (.fz d)).bind fun r1 => (b r1).bind fun p => if p.1 = true then (body p.2 acc).bind fun q => loopC h b own body l q.2 q.1 else loopC h b own body l p.2 acc
structure DCl where
  f : ID
  h : GD
  b : BD
  own : List Nat
def inD (e : MD) : List DCl → Env → List T → Option (List T × Env)
  | [], r, acc => (e r).bind fun q => if acc.length < 1000000 then some (acc ++ [q.1], q.2) else none
  | c :: cs, r, acc => (c.f r).bind fun q => loopC c.h c.b c.own (inD e cs) q.1 q.2 acc
end
end Q
set_option Elab.async false
set_option linter.all false
set_option maxRecDepth 100000
set_option maxHeartbeats 2000000
namespace Q
open PySem PySem.Spec PyProof.Rows L2
/-! ### ways whose places are told by names -/
end Q
set_option Elab.async false
set_option linter.all false
set_option maxRecDepth 100000
set_option maxHeartbeats 2000000
/-! sorted(xs): any data that are alike, any number of them -/
namespace Q
open PySem PySem.Spec PySem.W PyProof.Rows L2
end Q
set_option Elab.async false
set_option linter.all false
set_option maxRecDepth 100000
set_option maxHeartbeats 2000000
/-! what loops of clauses are worth -/
namespace Q
end Q
set_option Elab.async false
set_option linter.all false
set_option maxRecDepth 100000
set_option maxHeartbeats 2000000
/-! things held against themselves; what dicts with nested keys are worth -/
namespace Q
open PySem PySem.Spec PyProof.Rows L2
/-- the thing can be held against others -/
def Cm (d : D) (m : Nat) : Prop := ∃ x, d.py = some x ∧ x.canLay0 = true ∧ x.depth ≤ m
def CmL (l : List D) (m : Nat) : Prop := ∃ xs, pyL l = some xs ∧ PyData.canLayAll0 xs = true ∧ PyData.depthAll xs ≤ m ∧ xs.length = l.length
theorem Cm.int (i : Int) {m : Nat} : Cm (.int i) m := ⟨.int i, rfl, rfl, by simp [PyData.depth]⟩
theorem Cm.bl (b : Bool) {m : Nat} : Cm (.bl b) m := ⟨.bool b, rfl, rfl, by simp [PyData.depth]⟩
theorem Cm.non {m : Nat} : Cm .non m := ⟨.none, rfl, rfl, by simp [PyData.depth]⟩
theorem Cm.str {s : Str} (h : PyData.strOk s = true) {m : Nat} : Cm (.str s) m := ⟨.str s, rfl, h, by simp [PyData.depth]⟩
theorem CmL.of {m : Nat} : ∀ {l : List D}, (∀ d ∈ l, Cm d m) → CmL l m
  | [], _ => ⟨[], rfl, rfl, by simp [PyData.depthAll], rfl⟩
  | d :: l, h => by
    obtain ⟨x, h1, h2, h3⟩ := h d (by simp)
    obtain ⟨xs, k1, k2, k3, k4⟩ := CmL.of (l := l) fun e he => h e (by simp [he])
    exact ⟨x :: xs, by unfold pyL; rw [h1, k1]; rfl, by simp [PyData.canLayAll0, h2, k2], by simp only [PyData.depthAll]; omega, by simp [k4]⟩
theorem Cm.tup {l : List D} {m : Nat} (h : ∀ d ∈ l, Cm d m) : Cm (.tup l) (m + 1) := by
  obtain ⟨xs, k1, k2, k3, _⟩ := CmL.of h
  exact ⟨.tuple xs, by unfold D.py; rw [k1]; rfl, k2, by simp only [PyData.depth]; omega⟩
theorem Cm.lst {l : List D} {m : Nat} (h : ∀ d ∈ l, Cm d m) : Cm (.lst l) (m + 1) := by
  obtain ⟨xs, k1, k2, k3, _⟩ := CmL.of h
  exact ⟨.list xs, by unfold D.py; rw [k1]; rfl, k2, by simp only [PyData.depth]; omega⟩
theorem Cm.ints (n : List Int) {m : Nat} : Cm (.tup (n.map .int)) (m + 1) := .tup fun d hd => by
  obtain ⟨i, _, rfl⟩ := List.mem_map.mp hd
  exact .int i
theorem Cm.shaped {d : D} (h : Cm d 64) : ∃ x, d.py = some x ∧ SeqAt.shaped x = true ∧ PyData.eqv x x = true := by
  obtain ⟨x, h1, h2, h3⟩ := h
  refine ⟨x, h1, ?_, SeqAt.eqv_refl x h2⟩
  simp only [SeqAt.shaped, h2, Bool.true_and]
  exact decide_eq_true h3
theorem Cm.mono {d : D} {m k : Nat} (h : Cm d m) (hk : m ≤ k) : Cm d k := by
  obtain ⟨x, h1, h2, h3⟩ := h
  exact ⟨x, h1, h2, by omega⟩
end Q
set_option Elab.async false
set_option linter.all false
set_option maxRecDepth 100000
set_option maxHeartbeats 2000000
/-! a text whose signs are set apart: e.replace(..) of written texts, and for v in (c, d, ..): x = x.replace(v, f'pvq') -/
namespace Q
open PySem PySem.Spec PyProof.Rows L2
section
variable {X : Cx} {pins : List (Addr × Obj)} {σ : L2.St} {H : Hp} {s : Shared}
/-- only the frame's own names are written -/
theorem inv_named {h' : Heap} {t' : Nat} {m : Str → Option Value} {i : Nat} {x : Str} {v : V} {u : Value} (I : Inv X pins σ H s) (hN : X.N.Nodup) (hi : X.N[i]? = some x) (hk : X.env.kindOf x = some .local) (r : RelV v u)
    (hn : s.heap.Ns X.env.locals m) (hn' : h'.Ns X.env.locals (fun y => if y = x then some u else m y)) (hs : Heap.SameBut X.env.locals s.heap h') : Inv X pins (σ.set i (some v)) H { s with heap := h', toks := t' } := by
  obtain ⟨m0, hn0, hl⟩ := id I.loc
  have em : m0 = m := by
    obtain ⟨o, es, ep, a1, a2, _, a4⟩ := hn
    obtain ⟨o', es', ep', b1, b2, _, b4⟩ := hn0
    rw [a1] at b1
    cases b1
    rw [a2] at b2
    cases b2
    funext y
    rw [← a4 y, ← b4 y]
  subst em
  have hiσ : i < σ.length := by rw [I.len]; exact (List.getElem?_eq_some_iff.mp hi).1
  have old : ∀ b o, X.s_0.heap.get? b = some o → h'.get? b = s.heap.get? b := fun b o e => hs.2 b (Nat.ne_of_lt (Nat.lt_of_lt_of_le (Heap.lt_size e) I.ok.above))
  refine ⟨I.ok, I.os, I.bare, ⟨fun b o e n hb hx => (old b o e).trans (I.base.keep b o e n hb hx), fun b o e n hb hx => ?_, I.base.free, fun b o e hx => ?_, I.base.tups, I.base.frzs, I.base.tbls⟩, ⟨_, hn', fun j y w e1 e2 e3 => ?_⟩, fun y c e => ?_, I.free, I.freeC, fun p hp => ?_, fun b ob e => ?_, by simpa using I.len⟩
  · obtain ⟨sl, q⟩ := I.base.slot b o e n hb hx
    exact ⟨sl, (old b o e).trans q⟩
  · obtain ⟨o', q⟩ := I.base.there b o e hx
    exact ⟨o', (old b o e).trans q⟩
  · by_cases hj : j = i
    · subst hj
      cases hi.symm.trans e1
      rw [List.getElem?_set_self hiσ] at e2
      cases e2
      exact ⟨u, r, .inl ⟨hk, if_pos rfl⟩⟩
    · rw [List.getElem?_set_ne (Ne.symm hj)] at e2
      obtain ⟨u', r', q⟩ := hl j y w e1 e2 e3
      refine ⟨u', r', q.elim (fun z => .inl ⟨z.1, ?_⟩) fun z => .inr ⟨z.1, ?_⟩⟩
      · have ne : ¬ y = x := fun e => hj (nodup_ix hN e1 (by rw [e]; exact hi))
        exact (if_neg ne).trans z.2
      · obtain ⟨c, e, z⟩ := z.2
        exact ⟨c, e, z.sameBut hs (I.cne y c e)⟩
  · obtain ⟨w', z⟩ := I.cell y c e
    exact ⟨w', z.sameBut hs (I.cne y c e)⟩
  · obtain ⟨e, n, ne, nf, d⟩ := I.pin p hp
    exact ⟨(hs.2 p.1 ne).trans e, n, ne, nf, d⟩
  · refine (I.hok b ob e).stay (fun c w' hc q => (hs.2 c ?_).trans q) (fun _ q => q) fun _ _ q => q
    rintro rfl
    rcases hc with rfl | hc
    · rw [I.free] at e; cases e
    · rw [I.free] at hc; cases hc
theorem store_raw {i : Nat} {x : Str} {v : V} {u : Value} {Q : Unit → Shared → Prop} {E : Value → Shared → Prop} (I : Inv X pins σ H s) (hN : X.N.Nodup) (hi : X.N[i]? = some x) (hk : X.env.kindOf x = some .local) (r : RelV v u)
    (h : ∀ s' m, Inv X pins (σ.set i (some v)) H s' → s'.toks = s.toks + 1 → s'.heap.Ns X.env.locals m → m x = some u → (∀ b, b ≠ X.env.locals → s'.heap.get? b = s.heap.get? b) → Q () s') : wpAny (model X.prog X.w) X.A (storeName X.env x u) Q E s := by
  obtain ⟨m, hn, _⟩ := id I.loc
  have hcls : (X.env.scope.kind == .class || (X.env.scope.kind == .module && X.env.locals != X.env.globals)) = false := by rw [I.ok.kind]; rfl
  refine wpAny_storeName_local hk hn (fun h' hn' hs => ?_) hcls
  exact h _ _ (inv_named I hN hi hk r hn hn' hs) rfl hn' (if_pos rfl) fun b hb => hs.2 b hb
/-- f'pvq', its token known -/
theorem fs_run {v1 v2 : Expr} {rest : List Expr} {ts : List TE} {pos : Pos} {P : Str → Hp → Prop} (h : PJ X (v1 :: v2 :: rest) ts) (I : Inv X pins σ H s) (q : tJs ts Str.empty σ H P) :
    wpAny (model X.prog X.w) X.A (eval (.JoinedStr (v1 :: v2 :: rest) pos) X.env) (fun u s' => ∃ (out : Str) (H1 : Hp) (t : Nat), u = Value.str out t ∧ s'.toks = t + 1 ∧ Inv X pins σ H1 s' ∧ P out H1) X.xe s :=
  wpAny_JoinedStr (pj_run h Str.empty s H P _ (Nat.zero_le _) I q fun out s1 H1 hz I1 q1 => ⟨hz, out, H1, s1.toks, rfl, rfl, I1.tok _, q1⟩)
end
/-- the signs cs of x, each between p and q -/
def sparse (p q : Str) : List Str → Str → Str
  | [], x => x
  | c :: cs, x => sparse p q cs (Txt.replace x c (p ++ c ++ q))
def sparseOk (p q : Str) : List Str → Str → Prop
  | [], _ => True
  | c :: cs, x => (p.length ≤ sizeLine ∧ c.length ≤ sizeLine ∧ (p ++ c).length ≤ sizeLine) ∧ (p ++ c ++ q).length ≤ sizeLine ∧ (c == p ++ c ++ q) = false ∧ x.length + (x.length + 1) * (p ++ c ++ q).length ≤ 16777216 ∧ sparseOk p q cs (Txt.replace x c (p ++ c ++ q))
def tSparse (ix iv : Nat) (p q : Str) (cs : List Str) : TS := fun D σ H => ∃ x c, σ[ix]? = some (some (.str x)) ∧ cs.getLast? = some c ∧ sparseOk p q cs x ∧ D.nx ((σ.set iv (some (.str c))).set ix (some (.str (sparse p q cs x)))) H
section
variable {X : Cx} {pins : List (Addr × Obj)} {σ : L2.St} {H : Hp} {s : Shared}
/-- the written texts of a tuple: their tokens follow one another -/
inductive Row3 (X : Cx) : List Expr → List Str → Prop where
  | nil : Row3 X [] []
  | cons {c : Str} {j : Nat} {pos : Pos} {es : List Expr} {cs : List Str} (h : Row3 X es cs) (hs : starEach (.Constant (.str c) j pos :: es) X.env = (false, eval (.Constant (.str c) j pos) X.env) :: starEach es X.env) : Row3 X (.Constant (.str c) j pos :: es) (c :: cs)
def numbered : Nat → List Str → List Value
  | _, [] => []
  | k, c :: cs => .str c k :: numbered (k + 1) cs
theorem numbered_len : ∀ (k : Nat) (cs : List Str), (numbered k cs).length = cs.length
  | _, [] => rfl
  | k, _ :: cs => congrArg Nat.succ (numbered_len (k + 1) cs)
theorem numbered_at : ∀ (k : Nat) (cs : List Str) (i : Nat) {c : Str}, cs[i]? = some c → (numbered k cs)[i]? = some (.str c (k + i))
  | k, c :: cs, 0, _, h => by cases h; rfl
  | k, _ :: cs, i + 1, _, h => by
    have := numbered_at (k + 1) cs i (by simpa using h)
    rw [show k + 1 + i = k + (i + 1) by omega] at this
    simpa [numbered] using this
  | _, [], _, _, h => by simp at h
theorem row3_run {es : List Expr} {cs : List Str} {pos : Pos} {E : Value → Shared → Prop} (h : Row3 X es cs) : ∀ (s : Shared) (Q : List Value → Shared → Prop), Q (numbered s.toks cs) { s with toks := s.toks + cs.length } →
    wpAny (model X.prog X.w) X.A (spliced (backTo pos (starEach es X.env))) Q E s := by
  induction h with
  | nil => intro s Q q; exact Calls.spliced_nil q
  | @cons c j p es cs h hs ih =>
    intro s Q q
    rw [hs]
    show wpAny _ _ (spliced ((false, eval (.Constant (.str c) j p) X.env) :: backTo pos (starEach es X.env))) _ _ s
    refine Calls.spliced_cons (Calls.Constant_str (ih { s with toks := s.toks + 1 } _ ?_))
    have e : ({ s with toks := s.toks + 1 + cs.length } : Shared) = { s with toks := s.toks + (c :: cs).length } := by
      rw [List.length_cons, show s.toks + 1 + cs.length = s.toks + (cs.length + 1) by omega]
    rw [← e] at q
    exact q
theorem ps_sparse {x y p q : Str} {ix iv : Nat} {es : List Expr} {cs : List Str} {j0 j1 : Nat} {tk} {tp tpos p0 p1 p2 p3 p4 c0 c1 apos cpos jpos spos pos : Pos} (hp : PassesOwn (model X.prog X.w) X.A X.env X.xe) (hc : X.calm = true) (hN : X.N.Nodup) (hx : X.N[ix]? = some x) (hy : X.N[iv]? = some y)
    (kx : X.env.kindOf x = some .local) (ky : X.env.kindOf y = some .local) (ne : iv ≠ ix) (hr : Row3 X es cs) (hz : cs.length ≤ sizeLine)
    (hst : starEach [.Name y p2, .JoinedStr [.Constant (.str p) j0 c0, .FormattedValue (.Name y p3) (-1) none p4, .Constant (.str q) j1 c1] jpos] X.env = [(false, eval (.Name y p2) X.env), (false, eval (.JoinedStr [.Constant (.str p) j0 c0, .FormattedValue (.Name y p3) (-1) none p4, .Constant (.str q) j1 c1] jpos) X.env)] := by rfl)
    (hbase : attributeBase (.Name x p1) "replace" X.env (eval (.Name x p1) X.env) = eval (.Name x p1) X.env := by rfl) (hline : (apos.endLine == cpos.line) = true := by rfl)
    (hsw : swapsWith (.Call (.Attribute (.Name x p1) "replace" apos) [.Name y p2, .JoinedStr [.Constant (.str p) j0 c0, .FormattedValue (.Name y p3) (-1) none p4, .Constant (.str q) j1 c1] jpos] [] cpos) (some (.Name x p0)) spos.line X.env = pure false := by rfl)
    (hf : ∀ z, foldedSetIterable (.Tuple es tk tpos) X.env z = pure z := by intro _; rfl)
    (dx : (x == ("__debug__" : Str)) = false := by decide) (gx : (x == ("__classdict__" : Str)) = false := by decide) (dy : (y == ("__debug__" : Str)) = false := by decide) (gy : (y == ("__classdict__" : Str)) = false := by decide) :
    PST X (.For (.Name y tp) (.Tuple es tk tpos) [.Assign [.Name x p0] (.Call (.Attribute (.Name x p1) "replace" apos) [.Name y p2, .JoinedStr [.Constant (.str p) j0 c0, .FormattedValue (.Name y p3) (-1) none p4, .Constant (.str q) j1 c1] jpos] [] cpos) spos] [] pos) (tSparse ix iv p q cs) := by
  intro pins s σ H D h0 I h
  obtain ⟨t, cl, e1, e2, ok, fin⟩ := h
  have hnl : (numbered s.toks cs).length = cs.length := numbered_len s.toks cs
  refine wpAny_For (wpAny_Tuple_spliced (row3_run hr s _ ⟨by rw [hnl]; exact hz, ?_⟩)) hf
  obtain ⟨k0, hk⟩ : ∃ k0, k0 = s.toks := ⟨_, rfl⟩
  rw [← hk] at hnl h0 ⊢
  have hT : (s.heap.push { cls := .type "tuple", data := .seq (numbered k0 cs).toArray }).IsTuple s.heap.objs.size (numbered k0 cs).toArray := ⟨_, Heap.get?_push_size _ rfl, rfl, 0, rfl⟩
  refine wpAny_pyIter_tuple hT ?_
  obtain ⟨h1, eh1⟩ : ∃ h1, h1 = s.heap.push { cls := .type "tuple", data := .seq (numbered k0 cs).toArray } := ⟨_, rfl⟩
  obtain ⟨h2, eh2⟩ : ∃ h2, h2 = h1.push { cls := .type "tuple_iterator", data := .fields #[.ref s.heap.objs.size, .int 0 0] } := ⟨_, rfl⟩
  obtain ⟨a, ea⟩ : ∃ a, a = s.heap.objs.size := ⟨_, rfl⟩
  obtain ⟨it, eit⟩ : ∃ it, it = h1.objs.size := ⟨_, rfl⟩
  have hsz : s.heap.objs.size ≤ h1.objs.size := by rw [eh1]; simp [Heap.push]
  have fa : FpOk X pins H a := by rw [ea]; exact I.fpOk (Nat.le_refl _) (I.hok.fresh (Nat.le_refl _))
  have fi : FpOk X pins H it := by rw [eit]; exact I.fpOk hsz (I.hok.fresh hsz)
  have I2 : Inv X pins σ H { s with heap := h2, toks := k0 + cs.length } := I.kept fun b o e => by rw [eh2]; exact Heap.get?_push_of_some _ (by rw [eh1]; exact Heap.get?_push_of_some _ e)
  have t2 : h2.IsTuple a (numbered k0 cs).toArray := by
    rw [← eh1, ← ea] at hT
    obtain ⟨o, ho, r⟩ := hT
    exact ⟨o, by rw [eh2]; exact Heap.get?_push_of_some _ ho, r⟩
  have i2 : h2.IsTupleIter it a 0 := ⟨_, by rw [eh2, eit]; exact Heap.get?_push_size _ rfl, rfl, by rw [ea]; rfl⟩
  rw [← eh1, ← ea, ← eit]
  show codeAny _ _ _ _ { s with heap := h1.push { cls := .type "tuple_iterator", data := .fields #[.ref a, .int 0 0] }, toks := k0 + cs.length }
  have eh2' : h2 = h1.push { cls := .type "tuple_iterator", data := .fields #[.ref a, .int 0 0] } := by rw [eh2, ea]
  rw [← eh2']
  have stat : ∀ b ∈ [it, a], FpOk X pins H b := fun b hb => by
    rcases List.mem_cons.mp hb with z | z
    · rw [z]; exact fi
    · rw [List.mem_singleton.mp z]; exact fa
  obtain ⟨S, hS⟩ : ∃ S, S = (σ.set iv (some (.str cl))).set ix (some (.str (sparse p q cs t))) := ⟨_, rfl⟩
  rw [← hS] at fin
  have hcl : ∀ i, i + 1 = cs.length → cs[i]? = some cl := fun i hi => by
    rw [List.getLast?_eq_getElem?] at e2
    rw [show i = cs.length - 1 by omega]; exact e2
  refine codeAny_forLoop_any (fun n s' => ∃ i σ' x', n = cs.length - i ∧ i ≤ cs.length ∧ Inv X pins σ' H s' ∧ s'.heap.IsTuple a (numbered k0 cs).toArray ∧ s'.heap.IsTupleIter it a i ∧ k0 + cs.length ≤ s'.toks ∧ σ'[ix]? = some (some (.str x')) ∧ sparseOk p q (cs.drop i) x' ∧
    (i < cs.length → (σ'.set iv (some (.str cl))).set ix (some (.str (sparse p q (cs.drop i) x'))) = S) ∧ (i = cs.length → σ' = S)) ?_ (cs.length - 0) ⟨0, σ, t, rfl, Nat.zero_le _, I2, t2, i2, Nat.le_refl _, e1, by rw [List.drop_zero]; exact ok, fun _ => by rw [List.drop_zero]; exact hS.symm, fun z => by
      rw [List.length_eq_zero_iff.mp z.symm] at e2; cases e2⟩
  rintro n s3 ⟨i, σ3, x3, hn, hi, I3, t3, i3, k3, v3, ok3, g3, f3⟩
  by_cases hlt : i < cs.length
  · have hci : cs[i]? = some cs[i] := List.getElem?_eq_getElem hlt
    obtain ⟨c, ec⟩ : ∃ c, c = cs[i] := ⟨_, rfl⟩
    rw [← ec] at hci
    have hd3 : cs.drop i = c :: cs.drop (i + 1) := by rw [ec]; exact List.drop_eq_getElem_cons hlt
    rw [hd3] at ok3 g3
    obtain ⟨z1, z2, z3, z4, ok4⟩ := ok3
    have hit : (numbered k0 cs).toArray[i]? = some (.str c (k0 + i)) := by simpa using numbered_at k0 cs i hci
    obtain ⟨f0, fl, f2, f3', f4, f5⟩ := fi
    refine wpAny_passesOwn hp (wpAny_pyNext_tuple_item i3 t3 hit fun h4 i4 sb => ?_)
    have I4 : Inv X pins σ3 H { s3 with heap := h4 } := I3.turned (t' := s3.toks) (fun b o hb e => (sb.2 b hb).trans e) f0 fl f3' f4 f5
    have nia : a ≠ it := fun z => by
      obtain ⟨o, ho, hcl', _⟩ := t3
      obtain ⟨o', ho', hcl2, _⟩ := i3
      rw [z, ho'] at ho
      cases ho
      rw [hcl'] at hcl2
      exact absurd hcl2 (by decide)
    have t4 : h4.IsTuple a (numbered k0 cs).toArray := by
      obtain ⟨o, ho, r⟩ := t3
      exact ⟨o, (sb.2 a nia).trans ho, r⟩
    obtain ⟨oi, hoi, ci, di⟩ := id i4
    refine wpAny_passesOwn hp (go_of (s := { s3 with heap := h4 }) hoi ci di (by decide) ?_)
    refine wpAny_passesOwn hp (wpAny_assign_Name (store_raw (v := .str c) I4 hN hy ky ⟨_, rfl⟩ fun s5 m I5 tk5 ns5 m5 hk5 => ?_))
    have t5 : s5.heap.IsTuple a (numbered k0 cs).toArray := by
      obtain ⟨o, ho, r⟩ := t4
      exact ⟨o, (hk5 a fa.2.1).trans ho, r⟩
    have i5 : s5.heap.IsTupleIter it a (i + 1) := ⟨oi, (hk5 it fl).trans hoi, ci, di⟩
    have I6 := I5.pinned stat (fun b hb => by
      rcases List.mem_cons.mp hb with z | z
      · rw [z]; exact ⟨oi, (hk5 it fl).trans hoi, fun v z => by rw [di] at z; cases z⟩
      · rw [List.mem_singleton.mp z]
        obtain ⟨o, ho, _, nn, dd⟩ := t5
        exact ⟨o, ho, fun v z => by rw [dd] at z; cases z⟩)
    have hx5 : (σ3.set iv (some (.str c)))[ix]? = some (some (.str x3)) := by rw [List.getElem?_set_ne ne]; exact v3
    refine wpAny_passesOwn hp (wpAny_execs_cons (wpAny_Assign_Name (wpAny_mono (PySem.wpAny_toks (Q := fun v s6 => ∃ t7, v = Value.str (Txt.replace x3 c (p ++ c ++ q)) t7 ∧ Inv X (pins ++ pinsAt [it, a] s5.heap) (σ3.set iv (some (.str c))) H s6) (E := X.xe) ?_) (fun v s6 qq => ?_) fun _ _ z => z.2) hsw))
    rotate_left
    · obtain ⟨hk6, t7, ev, I7⟩ := qq
      subst ev
      refine store_raw (v := .str (Txt.replace x3 c (p ++ c ++ q))) I7 hN hx kx ⟨_, rfl⟩ fun s8 m8 I8 tk8 ns8 m8' hk8 => wpAny_execs_nil ?_
      obtain ⟨ta0, hta, rta⟩ := t5
      have pa := (I7.pin (a, ta0) (List.mem_append_right _ (List.mem_append_right _ (mem_pinsAt (by simp) hta)))).1
      have pi := (I7.pin (it, oi) (List.mem_append_right _ (List.mem_append_right _ (mem_pinsAt (by simp) ((hk5 it fl).trans hoi))))).1
      have tk8' : s8.toks = s6.toks + 1 := tk8
      have tk5' : s5.toks = s3.toks + 1 := tk5
      refine ⟨cs.length - (i + 1), by omega, i + 1, _, _, rfl, hlt, I8.unpinned, ⟨ta0, (hk8 a fa.2.1).trans pa, rta⟩, ⟨oi, (hk8 it fl).trans pi, ci, di⟩, by omega, List.getElem?_set_self (by rw [List.length_set, I4.len]; exact (List.getElem?_eq_some_iff.mp hx).1), ok4, fun hl => ?_, fun he => ?_⟩
      · rw [← g3 hlt, List.set_comm _ _ ne.symm, List.set_set, List.set_set]
        rfl
      · have := hcl i he
        rw [hci] at this
        cases this
        rw [← g3 hlt, List.drop_eq_nil_of_le (by omega)]
        rfl
    refine PySem.Call_method2 hbase hst hline (raw_name hx (.inl kx) I6 hx5 (fun v r => ?_) dx gx)
    obtain ⟨tx, er⟩ := r
    subst er
    refine ⟨"str", _, F.plainAttrs_str, F.slot_str_replace, F.type_str_replace, typeIs_str _ _ _, (fun _ e => nomatch e), Calls.callWith_builtin rfl (Calls.evalArgs_plain (Calls.spliced_cons ?_))⟩
    refine wpAny_Name (wpAny_loadName_local I6.ok.kind ky ns5 m5 ?_) dy
    have liv : iv < (σ3).length := by rw [I4.len]; exact (List.getElem?_eq_some_iff.mp hy).1
    have hy5 : (σ3.set iv (some (.str c)))[iv]? = some (some (.str c)) := List.getElem?_set_self liv
    have pj : PJ X [.Constant (.str p) j0 c0, .FormattedValue (.Name y p3) (-1) none p4, .Constant (.str q) j1 c1] [tC (.str p), tFmt (tVar iv), tC (.str q)] := .cons pe_str (.cons (pe_fmt (pe_var hy (.inl ky) dy gy)) (.cons pe_str .nil))
    refine Calls.spliced_cons (wpAny_mono (PySem.wpAny_toks (fs_run (P := fun out H1 => out = p ++ c ++ q ∧ H1 = H) pj I6 ?_)) (fun u s6 qq => ?_) fun _ _ z => z.2)
    · have em : Str.empty ++ p = p := TL.ext_tl (by rw [TL.tl_append]; rfl)
      show tJs [tC (.str p), tFmt (tVar iv), tC (.str q)] Str.empty _ _ _
      refine ⟨p, rfl, by rw [em]; exact z1.1, _, hy5, Or.inl ⟨c, rfl, z1.2.1, c, rfl, by rw [em]; exact z1.2.2, q, rfl, by rw [em]; exact z2, ?_⟩⟩
      exact ⟨by rw [em], rfl⟩
    · obtain ⟨hk6, out, H6, t6, eu, tk6, I7, eo, eH⟩ := qq
      subst eu eo eH
      refine Calls.spliced_nil ?_
      have tk5' : s5.toks = s3.toks + 1 := tk5
      have hk6' : s5.toks ≤ s6.toks := hk6
      have tk6' : s6.toks = t6 + 1 := tk6
      have k3' : k0 + cs.length ≤ s3.toks := k3
      clear hk6 tk6 tk5 k3
      refine PySem.SC.replace (show k0 + i ≠ 0 by omega) (show t6 ≠ 0 by omega) (show k0 + i ≠ t6 by omega) z3 z4 fun t7 k7 => ?_
      exact ⟨t7, rfl, I7.tok k7⟩
  · have hie : i = cs.length := by omega
    obtain ⟨f0, fl, f2, f3', f4, f5⟩ := fi
    refine wpAny_passesOwn hp (wpAny_pyNext_tuple_end (I3.ok.hd hc) i3 t3 (by simp [hnl]; omega) fun h' eb => ?_)
    exact wpAny_execs_nil ⟨σ3, H, I3.turned (t' := s3.toks) (fun b o hb e => eb b o hb e) f0 fl f3' f4 f5, by rw [f3 hie]; exact fin⟩
end
end Q
set_option Elab.async false
set_option linter.all false
set_option maxRecDepth 100000
set_option maxHeartbeats 2000000
namespace Q
open PySem PySem.Spec PyProof.Rows L2
/-- if ' ' in t: raise ..; x = t.replace(y, z); for v in (c, d, ..): x = x.replace(v, f'pvq'); and so on -/
def tApart (it ix iv : Nat) (sp : Nat) (y z p q : Str) (cs : List Str) (tr : L2.St → Hp → Prop) (tn : TS) : TS := fun D σ H => ∃ t, σ[it]? = some (some (.str t)) ∧ ((sp ∈ t.cps.toList ∧ tr σ H) ∨ (sp ∉ t.cps.toList ∧ ∃ c, cs.getLast? = some c ∧ t.length + (t.length + 1) * z.length ≤ 16777216 ∧ sparseOk p q cs (Txt.replace t y z) ∧
  tn D (((σ.set ix (some (.str (Txt.replace t y z)))).set iv (some (.str c))).set ix (some (.str (sparse p q cs (Txt.replace t y z))))) H))
section
variable {X : Cx}
theorem pst_setT {i : Nat} {x : Str} {e : Expr} {te : TE} {pos pos' : Pos} (hN : X.N.Nodup) (hi : X.N[i]? = some x) (hx : Loc X.env.scope x) (he : PET X e te) (hs : swapsWith e (some (.Name x pos')) pos.line X.env = pure false := by rfl)
    (hf : X.fn x = true ∨ X.env.scope.names.lookup x = some .local := by first | exact .inl rfl | exact .inr rfl | assumption) : PST X (.Assign [.Name x pos'] e pos) (tAsg te (gName i)) := by
  intro pins s σ H D h0 I h
  refine wpAny_Assign_Name (thn (he pins s σ H _ h0 I h) fun v s1 ⟨y, H1, I1, r1, q1⟩ => ?_) hs
  exact store_ok I1 hN hi hx r1 (fun s2 I2 => ⟨_, H1, I2, q1⟩) hf
theorem pss_apart {t c1 : Str} {it ix iv sp j : Nat} {y z p q : Str} {cs : List Str} {rb rest : List Stmt} {st1 st2 : Stmt} {tr : L2.St → Hp → Prop} {tn : TS} {k1 k2 k3 pos : Pos} (ec : c1 = ⟨#[sp]⟩) (ht : X.N[it]? = some t) (vt : Vis X.env.scope t) (ne : it ≠ ix)
    (h1 : PST X st1 (tAsg (CwR.tReplC (tVar it) y z) (gName ix))) (h2 : PST X st2 (tSparse ix iv p q cs)) (hr : PSs X rb (fun _ σ H => tr σ H)) (hn : PSs X rest tn) (hix : ix < X.N.length) (hv : iv ≠ ix)
    (hm : behindInMarks .In (.Name t k2) = false := by with_unfolding_all rfl) (hd : (t == ("__debug__" : Str)) = false := by decide) (hcd : (t == ("__classdict__" : Str)) = false := by decide) :
    PSs X (.If (.Compare (.Constant (.str c1) j k1) [.In] [.Name t k2] k3) rb [] pos :: st1 :: st2 :: rest) (tApart it ix iv sp y z p q cs tr tn) := by
  subst ec
  refine ⟨fun pins s σ H D I h => ?_⟩
  obtain ⟨tt, e1, h⟩ := h
  refine wpAny_execs_cons (wpAny_If (wpAny_isTrue_Compare1 (Calls.Constant_str ?_) hm))
  refine wpAny_mono (PySem.wpAny_toks ((pe_var ht vt hd hcd).run pins { s with toks := s.toks + 1 } σ H (fun v H1 => v = .str tt ∧ H1 = H) (I.tok _) ⟨_, e1, rfl, rfl⟩)) (fun u s1 qq => ?_) fun _ _ z => z.2
  obtain ⟨k1, v, H1, I1, r1, ev, eH⟩ := qq
  subst ev eH
  have k1' : s.toks + 1 ≤ s1.toks := k1
  refine wpAny_mono (PySem.wpAny_toks (op_in_sign pins s1 σ H1 (.str ⟨#[sp]⟩) (.str tt) _ u (fun v H2 => v = .bl (decide (sp ∈ tt.cps.toList)) ∧ H2 = H1) I1 ⟨_, rfl⟩ r1 ⟨sp, tt, rfl, rfl, rfl, rfl⟩)) (fun c s2 qq => ?_) fun _ _ z => z.2
  obtain ⟨k2, v, H2, I2, r2, ev, eH⟩ := qq
  subst ev eH
  cases r2
  have k2' : s1.toks ≤ s2.toks := k2
  refine wpAny_truthy_bool ?_
  rcases h with ⟨hin, ht⟩ | ⟨hin, cl, e2, hb, hok, hn'⟩
  · rw [decide_eq_true hin]
    refine wpAny_mono (hr.run pins s2 σ H2 ⟨fun _ _ => False, D.rt, D.bk, D.ct⟩ I2 ht) (fun f s3 q => ?_) fun _ _ z => z
    cases f with
    | next => obtain ⟨_, _, _, q⟩ := q; exact q.elim
    | ret v => exact q
    | brk => exact q
    | cont => exact q
  · rw [decide_eq_false hin]
    refine wpAny_execs_nil ?_
    refine psst_cons h1 (psst_cons h2 (PSsT.of hn)) pins s2 σ H2 D (by omega) I2 ?_
    refine ⟨_, e1, tt, rfl, hb, ?_⟩
    refine ⟨_, cl, List.getElem?_set_self (by rw [I2.len]; exact hix), e2, hok, hn'⟩
end
variable [TbS]
def dApart (it ix iv sp : Nat) (y z p q : Str) (cs : List Str) (c : Addr) (g : SD) : SD := fun r => match r[it]? with
  | some (.fz (.str t)) => if sp ∈ t.cps.toList then some (.ex c r) else if t.length ≤ 1000 then (cs.getLast?).bind fun l => g (((r.set ix (.fz (.str (Txt.replace t y z)))).set iv (.fz (.str l))).set ix (.fz (.str (sparse p q cs (Txt.replace t y z))))) else none
  | _ => none
section
variable {K : PySem.W.Frag} {A : Nat → Bool} {X : WX}
theorem SI.str_at {F : Fx} {G H : Hp} {r : List T} {s : List (Option V)} {i : Nat} {t : Str} (I : SI K F G H r s) (e : r[i]? = some (.fz (.str t))) : s[i]? = some (some (.str t)) := by
  obtain ⟨f, hr, _⟩ := I.own
  obtain ⟨y, g, h, b1, b2, _⟩ := hr.at e
  cases b2 with | fz z => cases z; exact b1
theorem SI.put_str {F : Fx} {G H : Hp} {r : List T} {s : List (Option V)} {t : Str} (I : SI K F G H r s) (i : Nat) : SI K F G H (r.set i (.fz (.str t))) (s.set i (some (.str t))) := by
  by_cases hi : i < r.length
  · obtain ⟨f, hr, hf⟩ := I.own
    obtain ⟨y, g, h, b1, b2, b3, b4, b5, b6⟩ := hr.at (List.getElem?_eq_getElem hi)
    exact I.same hf (b6 G H (.fz (.str t)) (some (.str t)) (fun _ => False) (Ex.refl G) (fun _ _ => rfl) (.fz (.str t)) (fun b hb => hb.elim)) fun b hb => hb.elim (fun z => z.elim) (b4 b)
  · rw [List.set_eq_of_length_le (by omega), List.set_eq_of_length_le (by have := I.len; omega)]
    exact I
theorem ds_apart {it ix iv sp : Nat} {y z p q : Str} {cs : List Str} {c : Addr} {tn : TS} {g : SD} (hg : DS K A X tn g) (hb : ∀ t : Str, t.length ≤ 1000 → t.length + (t.length + 1) * z.length ≤ 16777216 ∧ sparseOk p q cs (Txt.replace t y z)) (ax : A ix = true) (av : A iv = true) :
    DS K A X (tApart it ix iv sp y z p q cs (fun σ H => X (.ref c) none σ H) tn) (dApart it ix iv sp y z p q cs c g) := fun F P G H r s o a I pp e E q => by
  unfold dApart at e
  split at e
  case h_2 => cases e
  rename_i t e0
  have h0 := I.str_at e0
  have ll := I.len
  split at e
  · rename_i hin
    cases e
    exact ⟨t, h0, Or.inl ⟨hin, q s G H (Ex.refl G) I pp⟩⟩
  · rename_i hin
    split at e
    case isFalse => cases e
    rename_i hl
    obtain ⟨l, e2, e⟩ := Option.bind_eq_some_iff.mp e
    refine ⟨t, h0, Or.inr ⟨hin, l, e2, (hb t hl).1, (hb t hl).2, ?_⟩⟩
    exact hg F P G H _ _ o a (((I.put_str ix).put_str iv).put_str ix) (((pp.set (a ix ax)).set (a iv av)).set (a ix ax)) e E q
end
end Q
set_option Elab.async false
set_option linter.all false
set_option maxRecDepth 100000
set_option maxHeartbeats 2000000
namespace Q
open PySem PySem.Spec PyProof.Rows L2
variable [TbS]
/-! ### a statement that is never reached -/
/-! ### texts: an item, join, split, in -/
section
variable {K : PySem.W.Frag}
def gIxS : List D → Option Rs
  | [.str z, .int i] => if z.length ≤ 1000000 then (L2.atI z.cps.toList i).map fun c => .val (.str ⟨#[c]⟩) else none
  | _ => none
theorem dc_ixS : DC K (rl2 (rIx K)) gIxS := fun G H xs vs z sb pl q e Q k => by
  unfold gIxS at e
  split at e
  case h_2 => cases e
  rename_i x i
  split at e
  case isFalse => cases e
  rename_i hz
  obtain ⟨c, e1, e2⟩ := Option.map_eq_some_iff.mp e
  cases e2
  cases q with | cons p q => cases q with | cons p2 q =>
    cases q
    cases p
    cases p2
    exact Or.inr (Or.inr ⟨_, _, c, rfl, rfl, big hz, e1, k _ (.str _)⟩)
def strsD : List D → Option (List Str)
  | [] => some []
  | .str x :: l => (strsD l).map (x :: ·)
  | _ => none
theorem strsD_rp {G : Hp} : ∀ {l : List D} {ys : List Str} {vs : List V}, strsD l = some ys → RpL K G l vs → vs = ys.map V.str
  | [], _, _, e, r => by cases e; cases r; rfl
  | .str x :: l, _, _, e, r => by
    obtain ⟨ys, e1, rfl⟩ := Option.map_eq_some_iff.mp e
    cases r with | cons a b => cases a; rw [strsD_rp e1 b]; rfl
def gJoin : List D → Option Rs
  | [.str a, d] => d.items.bind fun l => (strsD l).bind fun ys => if (ys.map (·.length)).sum + ys.length * a.length ≤ 16777216 then some (.val (.str (Txt.join a ys))) else none
  | _ => none
abbrev rJoin (K : PySem.W.Frag) : V → List V → Hp → VK → Prop := fun x xs H Q => ∃ a p, ∃ ys : List Str, x = .str a ∧ xs = [.ref p] ∧ (SqL K H p (ys.map V.str) ∨ SqT K H p (ys.map V.str)) ∧ (ys.map (·.length)).sum + ys.length * a.length ≤ 16777216 ∧ Q (.str (Txt.join a ys)) H
theorem dc_join : DC K (rl2 fun x y H Q => rJoin K x [y] H Q) gJoin := fun G H xs vs z sb pl q e Q k => by
  unfold gJoin at e
  split at e
  case h_2 => cases e
  obtain ⟨l, e1, e⟩ := Option.bind_eq_some_iff.mp e
  obtain ⟨ys, e2, e⟩ := Option.bind_eq_some_iff.mp e
  split at e
  case isFalse => cases e
  rename_i hz
  cases e
  cases q with | cons p q => cases q with | cons p2 q =>
    cases q
    cases p
    obtain ⟨b, us, rfl, h, r⟩ := items_rp sb p2 e1
    rw [strsD_rp e2 r] at h
    exact ⟨_, b, ys, rfl, rfl, h, hz, k _ (.str _)⟩
abbrev rSplit1 : V → List V → Hp → VK → Prop := fun x xs H Q => ∃ a b, x = .str a ∧ xs = [.str b] ∧ (b.length == 0) = false ∧ a.length + 2 ≤ sizeLine ∧ rNewStrs (Txt.split a b) H Q
def gSplit : List D → Option Rs
  | [.str a, .str b] => if (b.length == 0) = false ∧ a.length ≤ 900000 then some (.newL ((Txt.split a b).map .str)) else none
  | _ => none
theorem dc_split : DC K (rl2 fun x y H Q => rSplit1 x [y] H Q) gSplit := fun G H xs vs z sb pl q e Q k => by
  unfold gSplit at e
  split at e
  case h_2 => cases e
  split at e
  case isFalse => cases e
  rename_i hz
  cases e
  cases q with | cons p q => cases q with | cons p2 q =>
    cases q
    cases p
    cases p2
    refine ⟨_, _, rfl, rfl, hz.1, big (by have := hz.2; omega), fun p hp => k p _ hp (rp_strs G _)⟩
def dM1 (g : List D → Option Rs) (fa fb : FD) : ED := fun r => (fa r).bind fun p => match p.1 with
  | .str x => (fb p.2).bind fun q => (g [.str x, q.1]).bind fun z => some (z.w, q.2)
  | _ => none
theorem de_m1 {fa fb : FD} {g : List D → Option Rs} {ta tb : TE} {rl : V → List V → Hp → VK → Prop} (ha : DF K ta fa) (hb : DF K tb fb) (hg : DC K (rl2 fun x y H Q => rl x [y] H Q) g) : DE K (tM1 rl ta tb) (dM1 g fa fb) := fun F G H r s tm us w r' I hl e Q q => by
  obtain ⟨⟨d, r1⟩, e1, e⟩ := Option.bind_eq_some_iff.mp e
  dsimp only at e
  split at e
  case h_2 => cases e
  rename_i x
  obtain ⟨⟨d2, r2⟩, e2, e⟩ := Option.bind_eq_some_iff.mp e
  obtain ⟨z, e3, e⟩ := Option.bind_eq_some_iff.mp e
  cases e
  refine ha F G H r s tm us _ r1 I hl e1 _ fun v G1 H1 x1 I1 l1 hd => ?_
  cases hd
  refine ⟨⟨_, rfl⟩, hb F G1 H1 r1 s tm us _ _ I1 l1 e2 _ fun v2 G2 H2 x2 I2 l2 hd2 => ?_⟩
  exact hg G2 H2 [.str x, d2] [.str x, v2] z I2.gh I2.pl (.cons (.str x) (.cons hd2 .nil)) e3 Q (rs_ok I2 l2 fun v G' H' x3 I3 l3 hw => q v G' H' ((x1.trans x2).trans x3) I3 l3 hw)
/-- a sign in a text -/
abbrev rSign (ng : Bool) : R2 := fun x y H Q => ∃ (c : Nat) (z : Str), x = .str ⟨#[c]⟩ ∧ y = .str z ∧ Q (.bl (if ng then !decide (c ∈ z.cps.toList) else decide (c ∈ z.cps.toList))) H
def gSign (ng : Bool) : List D → Option Rs
  | [.str ⟨⟨[c]⟩⟩, .str z] => some (.val (.bl (if ng then !decide (c ∈ z.cps.toList) else decide (c ∈ z.cps.toList))))
  | _ => none
theorem dc_sign {ng : Bool} : DC K (rl2 (rSign ng)) (gSign ng) := fun G H xs vs z sb pl q e Q k => by
  unfold gSign at e
  split at e
  case h_2 => cases e
  cases e
  cases q with | cons p q => cases q with | cons p2 q =>
    cases q
    cases p
    cases p2
    exact ⟨_, _, rfl, rfl, k _ (.bl _)⟩
theorem op_sign {X : Cx} : OpR X (compareOp .In) (rSign false) := op_in_sign
/-! ### f-strings -/
def fmtD : D → Option Str
  | .str y => if y.length ≤ 1000000 then some y else none
  | .int i => if i.natAbs.log2 < 1920 then some (Str.ofString (toString i)) else none
  | _ => none
abbrev SFD := Env → Option (Str × Env)
def DSf (K : PySem.W.Frag) (t : TE) (f : SFD) : Prop := ∀ F G H r s tm us y r', SI K F G H (r ++ tm) (s ++ us) → r.length = s.length → f r = some (y, r') → ∀ Q : VK, (∀ G' H', Ex G G' → SI K F G' H' (r' ++ tm) (s ++ us) → r'.length = s.length → Q (.str y) H') → t s H Q
def sC (x : Str) : SFD := fun r => some (x, r)
theorem sf_c {x : Str} : DSf K (tC (.str x)) (sC x) := fun F G H r s tm us y r' I hl e Q q => by
  cases e
  exact q G H (Ex.refl G) I hl
def sF (f : FD) : SFD := fun r => (f r).bind fun p => (fmtD p.1).map fun y => (y, p.2)
theorem sf_f {te : TE} {f : FD} (h : DF K te f) : DSf K (tFmt te) (sF f) := fun F G H r s tm us y r' I hl e Q q => by
  obtain ⟨⟨d, r1⟩, e1, e⟩ := Option.bind_eq_some_iff.mp e
  obtain ⟨y', e2, e⟩ := Option.map_eq_some_iff.mp e
  cases e
  refine h F G H r s tm us d r1 I hl e1 _ fun v G1 H1 x1 I1 l1 hd => ?_
  cases d with
  | str x =>
    cases hd
    dsimp only [fmtD] at e2
    split at e2
    · rename_i hz
      cases e2
      exact Or.inl ⟨_, rfl, big hz, q G1 H1 x1 I1 l1⟩
    · cases e2
  | int i =>
    cases hd
    dsimp only [fmtD] at e2
    split at e2
    · rename_i hz
      cases e2
      exact Or.inr ⟨_, rfl, hz, q G1 H1 x1 I1 l1⟩
    · cases e2
  | _ => cases e2
inductive DJs (K : PySem.W.Frag) : List TE → List SFD → Prop where
  | nil : DJs K [] []
  | cons {t : TE} {f : SFD} {ts : List TE} {fs : List SFD} (h : DSf K t f) (r : DJs K ts fs) : DJs K (t :: ts) (f :: fs)
def dJs : List SFD → Str → SFD
  | [], acc => fun r => some (acc, r)
  | f :: fs, acc => fun r => (f r).bind fun p => if (acc ++ p.1).length ≤ 1000000 then dJs fs (acc ++ p.1) p.2 else none
theorem djs_ok {ts : List TE} {fs : List SFD} (h : DJs K ts fs) : ∀ F G H r s tm us acc y r', SI K F G H (r ++ tm) (s ++ us) → r.length = s.length → dJs fs acc r = some (y, r') → ∀ Q : Str → Hp → Prop, (∀ G' H', Ex G G' → SI K F G' H' (r' ++ tm) (s ++ us) → r'.length = s.length → Q y H') → tJs ts acc s H Q := by
  induction h with
  | nil =>
    intro F G H r s tm us acc y r' I hl e Q q
    cases e
    exact q G H (Ex.refl G) I hl
  | cons h r ih =>
    intro F G H r s tm us acc y r' I hl e Q q
    obtain ⟨⟨z, r1⟩, e1, e⟩ := Option.bind_eq_some_iff.mp e
    dsimp only at e
    split at e
    case isFalse => cases e
    rename_i hz
    refine h F G H r s tm us z r1 I hl e1 _ fun G1 H1 x1 I1 l1 => ?_
    exact ⟨z, rfl, big hz, ih F G1 H1 r1 s tm us _ y r' I1 l1 e Q fun G' H' x2 I2 l2 => q G' H' (x1.trans x2) I2 l2⟩
def dFs (fs : List SFD) : ED := fun r => (dJs fs Str.empty r).map fun p => (.sh (.str p.1), p.2)
theorem de_fs {ts : List TE} {fs : List SFD} (h : DJs K ts fs) : DE K (fun σ H Q => tJs ts Str.empty σ H fun out H1 => Q (.str out) H1) (dFs fs) := fun F G H r s tm us w r' I hl e Q q => by
  obtain ⟨⟨y, r1⟩, e1, e⟩ := Option.map_eq_some_iff.mp e
  cases e
  exact djs_ok h F G H r s tm us _ y _ I hl e1 _ fun G' H' x1 I1 l1 => q _ G' H' x1 (by simpa only [W.tm, W.vl, List.append_nil] using I1) l1 (.str _)
/-! ### name.extend(e), e a list -/
def dExtendL (i : Nat) (f : MD) : ED := fun r => if isLs r[i]? = true then (f r).bind fun p => match p.1, p.2[i]? with
  | .ls t, some (.ls l) => if l.length + t.length ≤ 1000000 then some (.sh .non, p.2.set i (.ls (l ++ t))) else none
  | _, _ => none
  else none
theorem de_extendL {i : Nat} {te : TE} {f : MD} (h : DM K te f) : DE K (tBM K "list" rExtend (tVar i) (tCons te tNil)) (dExtendL i f) := fun F G H r s tm us w r' I hl e Q q => by
  unfold dExtendL at e
  split at e
  case isFalse => cases e
  rename_i hls
  obtain ⟨⟨d, r1⟩, e1, e⟩ := Option.bind_eq_some_iff.mp e
  dsimp only at e
  split at e
  case h_2 => cases e
  rename_i t l hr
  split at e
  case isFalse => cases e
  rename_i c
  cases e
  obtain ⟨l0, hr0⟩ := isLs_of hls
  obtain ⟨a, vs0, f0, z1, z2, _⟩ := I.listAt (get_left hr0)
  have z1' := of_left hl hr0 z1
  refine ⟨.ref a, z1', Or.inl ⟨rfl, _, Or.inl (Or.inl z2)⟩, ?_⟩
  refine h F G H r s tm us _ _ I hl e1 _ fun v G1 H1 x1 I1 l1 => ?_
  simp only [← List.append_assoc] at I1
  have ll : (r1 ++ tm).length = (s ++ us).length := by have := I1.len; simp at this ⊢; omega
  obtain ⟨b', vs, y1, y2, y3, ge, gt, c1, c2, c3, fin⟩ := SI.relist (r := r1 ++ tm) (x := s ++ us) (ts := [.ls t]) (ys := [some v]) I1 ll (get_left hr)
  have y1' := of_left l1 hr y1
  rw [z1'] at y1'
  cases y1'
  cases c2 with | cons k1 k2 k3 k4 k5 =>
    cases k1 with | @ls b zs _ _ gz m1 m2 m3 m4 =>
      have J := fin (l ++ t) (vs ++ zs) [] [] (fun b => ge b ∨ gz b) (fun _ => False) (by
        rw [List.map_append]
        exact m3.app c1 (fun b hb z => c3 b hb (k3 b (m4 b z).1))) .nil (fun b hb => hb.elim Or.inl fun z => Or.inr (k3 b (m4 b z).1)) (fun b hb => hb.elim) (fun b _ z => z)
      rw [set_left hr, List.append_nil, List.append_nil] at J
      have lz : t.length = zs.length := by simpa using m3.length
      exact ⟨a, b, vs, zs, rfl, rfl, y2, m2, big (by rw [← y3, ← lz]; exact c), q _ G1 _ x1 (by simpa only [W.tm, W.vl, List.append_nil] using J) (by rw [List.length_set]; exact l1) .non⟩
end
/-! ### dicts of the top, from texts to texts -/
def tabSD : List (Str × Str) → Str → Option Str
  | [], _ => none
  | (k, i) :: l, x => if k == x then some i else tabSD l x
def EntsSS : List DictEntry → List (Str × Str) → Prop
  | [], [] => True
  | d :: ds, p :: ps => ((∃ t, d.key = .str p.1 t) ∧ ∃ t, d.val = .str p.2 t) ∧ EntsSS ds ps
  | _, _ => False
structure KTabS (K : PySem.W.Frag) (w : World) (a : Addr) (ps : List (Str × Str)) : Prop where
  ex : ∃ es n, K.lookup a = some ⟨.type "dict", none, .dict es n, #[]⟩ ∧ PySem.W.KeysLit w.params es.toList ∧ (a == sysModules) = false ∧ EntsSS es.toList ps
def RelOS : Option Str → Option Value → Prop
  | none, none => True
  | some x, some v => ∃ t, v = .str x t
  | _, _ => False
theorem tabS_find : ∀ {ds : List DictEntry} {ps : List (Str × Str)} (x : Str), EntsSS ds ps → RelOS (tabSD ps x) ((ds.find? fun e => Value.isStrOf x e.key).map (·.val))
  | [], [], x, _ => trivial
  | [], _ :: _, x, h => h.elim
  | _ :: _, [], x, h => h.elim
  | d :: ds, (k, i) :: ps, x, ⟨⟨⟨t, h1⟩, u, h2⟩, h⟩ => by
    rw [List.find?_cons]
    have : Value.isStrOf x d.key = (k == x) := by rw [h1]; rfl
    rw [this]
    unfold tabSD
    cases c : k == x with
    | true => simp only [if_true, Option.map_some]; rw [h2]; exact ⟨u, rfl⟩
    | false => exact tabS_find x h
section
variable {X : Cx} {a : Addr} {ps : List (Str × Str)} {i : Expr} {x : Str} {p pos : Pos} {ty : TE}
abbrev rKIn (a : Addr) (ps : List (Str × Str)) (ng : Bool) : R2 := fun x y H Q => ∃ z, x = .str z ∧ y = .ref a ∧ Q (.bl (if ng then !(tabSD ps z).isSome else (tabSD ps z).isSome)) H
theorem op_kin (kt : KTabS X.K X.w a ps) : OpR X (compareOp .In) (rKIn a ps false) := by
  obtain ⟨es, n, hl, hk, low, rel⟩ := kt
  intro pins s σ H x y v u Q I rx ry h
  obtain ⟨z, rfl, rfl, q⟩ := h
  obtain ⟨t, rfl⟩ := rx
  cases ry
  refine wpAny_in_of (PySem.strKind_is X.prog X.w z t) low (PySem.W.mapOf_K (prog := X.prog) I.kIn hl hk) ?_
  have e : (findBy Value.isStrOf es z).isSome = (tabSD ps z).isSome := by
    obtain ⟨l⟩ := es
    unfold findBy
    rw [List.find?_toArray]
    have := tabS_find z rel
    revert this
    cases tabSD ps z <;> cases (List.find? (fun e => Value.isStrOf z e.key) l).map (·.val) <;> intro this <;> first | rfl | exact this.elim
  rw [e]
  exact ⟨.bl _, H, I.tok _, rfl, q⟩
def tKIx (ps : List (Str × Str)) (ty : TE) : TE := fun σ H Q => ty σ H fun y H1 => ∃ z r, y = .str z ∧ tabSD ps z = some r ∧ Q (.str r) H1
theorem pe_kix (hg : Gl X x) (hm : X.mg x = some (.ref a)) (kt : KTabS X.K X.w a ps) (hi : PE X i ty) (hs : NoSl i) (hd : (x == ("__debug__" : Str)) = false := by decide) : PE X (.Subscript (.Name x p) i pos) (tKIx ps ty) := by
  obtain ⟨es, n, hl, hk, low, rel⟩ := kt
  refine ⟨fun pins s σ H Q I h => ?_⟩
  refine subD_of PySem.F.slot_dict_getitem.lookup hs (thn ((pe_glob (v := .ref a) (pos := p) hg hm rfl hd).run pins s σ H (fun v H1 => v = .ref a ∧ H1 = H) I ⟨rfl, rfl⟩) fun u s1 ⟨v, H1, I1, rv, ev⟩ => ?_)
  obtain ⟨rfl, rfl⟩ := ev
  obtain rfl : u = Value.ref a := rv
  refine thn (hi.run pins s1 σ _ _ I1 h) fun iv s2 ⟨y, H2, I2, ry, z, r, ez, hr, q2⟩ => ?_
  subst ez
  obtain ⟨t, rfl⟩ := (show ∃ t, iv = Value.str z t from ry)
  have hm' := PySem.W.mapOf_K (prog := X.prog) (w := X.w) I2.kIn hl hk
  have e : ∃ v, findBy Value.isStrOf es z = some v ∧ ∃ t, v = .str r t := by
    obtain ⟨l⟩ := es
    unfold findBy
    rw [List.find?_toArray]
    have := tabS_find z rel
    rw [hr] at this
    revert this
    cases (List.find? (fun e => Value.isStrOf z e.key) l).map (·.val) with
    | none => exact fun h => h.elim
    | some v => exact fun h => ⟨v, rfl, h⟩
  obtain ⟨v, e1, t', e2⟩ := e
  refine ⟨hm'.typeIs, wpAny_getItem_of (PySem.strKind_is X.prog X.w z t) hm' e1 ⟨.str r, H2, I2.tok _, ?_, q2⟩⟩
  exact ⟨t', e2⟩
end
section
variable {K : PySem.W.Frag}
def dKIn (ps : List (Str × Str)) (ng : Bool) (f : FD) : ED := fun r => (f r).bind fun p => match p.1 with
  | .str z => some (.sh (.bl (if ng then !(tabSD ps z).isSome else (tabSD ps z).isSome)), p.2)
  | _ => none
theorem de_kin {a : Addr} {ps : List (Str × Str)} {ng : Bool} {ta : TE} {f : FD} (h : DF K ta f) : DE K (tOp (rKIn a ps ng) ta (tC (.ref a))) (dKIn ps ng f) := fun F G H r s tm us w r' I hl e Q q => by
  obtain ⟨⟨d, r1⟩, e1, e⟩ := Option.bind_eq_some_iff.mp e
  dsimp only at e
  split at e
  case h_2 => cases e
  cases e
  refine h F G H r s tm us _ _ I hl e1 _ fun v G1 H1 x1 I1 l1 hd => ?_
  cases hd
  exact ⟨_, rfl, rfl, q _ G1 H1 x1 (by simpa only [W.tm, W.vl, List.append_nil] using I1) l1 (.bl _)⟩
def dKIx (ps : List (Str × Str)) (f : FD) : ED := fun r => (f r).bind fun p => match p.1 with
  | .str z => (tabSD ps z).map fun x => (.sh (.str x), p.2)
  | _ => none
theorem de_kix {ps : List (Str × Str)} {ta : TE} {f : FD} (h : DF K ta f) : DE K (tKIx ps ta) (dKIx ps f) := fun F G H r s tm us w r' I hl e Q q => by
  obtain ⟨⟨d, r1⟩, e1, e⟩ := Option.bind_eq_some_iff.mp e
  dsimp only at e
  split at e
  case h_2 => cases e
  obtain ⟨x, e2, e⟩ := Option.map_eq_some_iff.mp e
  cases e
  refine h F G H r s tm us _ _ I hl e1 _ fun v G1 H1 x1 I1 l1 hd => ?_
  cases hd
  exact ⟨_, _, rfl, e2, q _ G1 H1 x1 (by simpa only [W.tm, W.vl, List.append_nil] using I1) l1 (.str _)⟩
end
/-! ### a call of what an expression tells -/
end Q
namespace Q
open PySem PySem.Spec PyProof.Rows L2
theorem repl_le {x y z : Str} {n m : Nat} (h : x.length ≤ n) (e : z.length = m) : (Txt.replace x y z).length ≤ n + (n + 1) * m := by
  subst e
  refine Nat.le_trans (TK.replace_len x y z) ?_
  have := Nat.mul_le_mul_right z.length (Nat.succ_le_succ h)
  simp only [Nat.succ_eq_add_one] at this
  omega
theorem apart_ok (t : Str) (h : t.length ≤ 1000) : t.length + (t.length + 1) * ("( " : Str).length ≤ 16777216 ∧ sparseOk " " " " [")", ";", "|"] (Txt.replace t "(" "( ") := by
  have l2 : ("( " : Str).length = 2 := by decide +kernel
  have h1 : (Txt.replace t "(" "( ").length ≤ 3002 := repl_le h l2
  have a1 : (((" " : Str) ++ ")") ++ " ").length = 3 := by decide +kernel
  have a2 : (((" " : Str) ++ ";") ++ " ").length = 3 := by decide +kernel
  have a3 : (((" " : Str) ++ "|") ++ " ").length = 3 := by decide +kernel
  have h2 : (Txt.replace (Txt.replace t "(" "( ") ")" ((" " : Str) ++ ")" ++ " ")).length ≤ 12011 := repl_le h1 a1
  have h3 : (Txt.replace (Txt.replace (Txt.replace t "(" "( ") ")" ((" " : Str) ++ ")" ++ " ")) ";" ((" " : Str) ++ ";" ++ " ")).length ≤ 48047 := repl_le h2 a2
  refine ⟨by rw [l2]; omega, ?_⟩
  refine ⟨⟨by decide +kernel, by decide +kernel, by decide +kernel⟩, by decide +kernel, by decide +kernel, by rw [a1]; omega, ?_⟩
  refine ⟨⟨by decide +kernel, by decide +kernel, by decide +kernel⟩, by decide +kernel, by decide +kernel, by rw [a2]; omega, ?_⟩
  exact ⟨⟨by decide +kernel, by decide +kernel, by decide +kernel⟩, by decide +kernel, by decide +kernel, by rw [a3]; omega, trivial⟩
end Q
set_option Elab.async false
set_option linter.all false
set_option maxRecDepth 100000
set_option maxHeartbeats 2000000
/-! text.index(sign), int(text) -/
namespace Q
open PySem PySem.Spec PyProof.Rows L2
variable [TbS]
section
variable {K : PySem.W.Frag}
abbrev rSIndex : V → List V → Hp → VK → Prop := fun x xs H Q => ∃ a b i rest, x = .str a ∧ xs = [.str b] ∧ Builtin.Str.occurrences a b 0 a.length 1 = i :: rest ∧ Q (.int (i : Nat)) H
def gSIndex : List D → Option Rs
  | [.str a, .str b] => match Builtin.Str.occurrences a b 0 a.length 1 with
    | i :: _ => some (.val (.int (i : Nat)))
    | [] => none
  | _ => none
theorem dc_sindex : DC K (rl2 fun x y H Q => rSIndex x [y] H Q) gSIndex := fun G H xs vs z sb pl q e Q k => by
  unfold gSIndex at e
  split at e
  case h_2 => cases e
  split at e
  case h_2 => cases e
  rename_i ho
  cases e
  cases q with | cons p q => cases q with | cons p2 q =>
    cases q
    cases p
    cases p2
    exact ⟨_, _, _, _, rfl, rfl, ho, k _ (.int _)⟩
theorem pe_sindex {X : Cx} {o e : Expr} {apos pos : Pos} {to te : TE} (ho : PE X o to) (he : PE X e te) (hs : starEach [e] X.env = [(false, eval e X.env)] := by rfl)
    (hbase : attributeBase o "index" X.env (eval o X.env) = eval o X.env := by rfl) (hline : (apos.endLine == pos.line) = true := by rfl) : PE X (.Call (.Attribute o "index" apos) [e] [] pos) (tM1 rSIndex to te) :=
  pe_m1 F.slot_str_index F.type_str_index mt_sindex ho he hs hbase hline
def gIntS : List D → Option Rs
  | [.str a] => match PySem.intText? a with
    | some n => if a.length ≤ 640 then some (.val (.int n)) else none
    | none => none
  | _ => none
theorem dc_intS : DC K (fun xs H Q => ∃ a n, xs = [.str a] ∧ PySem.intText? a = some n ∧ a.length ≤ 640 ∧ Q (.int n) H) gIntS := fun G H xs vs z sb pl q e Q k => by
  unfold gIntS at e
  split at e
  case h_2 => cases e
  split at e
  case h_2 => cases e
  rename_i hn
  split at e
  case isFalse => cases e
  rename_i hz
  cases e
  cases q with | cons p q =>
    cases q
    cases p
    exact ⟨_, _, rfl, hn, hz, k _ (.int _)⟩
end
end Q
section
open PySem PySem.Spec PyProof.Rows L2 Q
local macro_rules | `(tactic| walk_at "norm") => `(tactic| focus (first | (simp only [List.map_cons, List.map_nil]; done) | ((try simp only [List.map_cons, List.map_nil]); exact rfl)))
local macro_rules | `(tactic| walk_at "set") => `(tactic| focus (first | (dsimp only [List.set_cons_succ, List.set_cons_zero]; done) | ((try dsimp only [List.set_cons_succ, List.set_cons_zero]); exact rfl)))
local macro_rules | `(tactic| walk_at "frz") => `(tactic| focus (first | (simp only [frzE_cons, frzE_nil, frz_fz, frz_un, frz_ls, frz_ls1]; done) | ((try simp only [frzE_cons, frzE_nil, frz_fz, frz_un, frz_ls, frz_ls1]); exact rfl)))
local macro_rules | `(tactic| walk_at "pars") => `(tactic| focus (first | (simp only [pars, List.getElem?_cons_succ, List.getElem?_cons_zero, Option.bind_some, List.set_cons_succ, List.set_cons_zero]; done) | ((try simp only [pars, List.getElem?_cons_succ, List.getElem?_cons_zero, Option.bind_some, List.set_cons_succ, List.set_cons_zero]); exact rfl)))
local macro_rules | `(tactic| walk_at "back") => `(tactic| focus (first | (simp only [back, putBack, List.getElem?_cons_succ, List.getElem?_cons_zero, List.set_cons_succ, List.set_cons_zero]; done) | ((try simp only [back, putBack, List.getElem?_cons_succ, List.getElem?_cons_zero, List.set_cons_succ, List.set_cons_zero]); exact rfl)))
local macro_rules | `(tactic| walk_at "restore") => `(tactic| focus (first | with_reducible assumption | (simp only [restore, slotP, keepP, List.getElem?_cons_succ, List.getElem?_cons_zero, List.set_cons_succ, List.set_cons_zero]; done) | ((try simp only [restore, slotP, keepP, List.getElem?_cons_succ, List.getElem?_cons_zero, List.set_cons_succ, List.set_cons_zero]); exact rfl)))
local macro_rules | `(tactic| walk_at "wipe") => `(tactic| focus (first | (simp only [wipeT, List.set_cons_succ, List.set_cons_zero]; done) | ((try simp only [wipeT, List.set_cons_succ, List.set_cons_zero]); exact rfl)))
local macro_rules | `(tactic| walk_at "out") => `(tactic| focus (first | (simp only [outP, keepP, if_true, Bool.false_eq_true, if_false]; done) | ((try simp only [outP, keepP, if_true, Bool.false_eq_true, if_false]); exact rfl)))
local macro_rules | `(tactic| walk_at "side") => `(tactic| (first | with_reducible assumption | omega | decide))
local macro_rules | `(tactic| walk_at "mul") => `(tactic| (first | with_reducible assumption | exact mulW_small 62 62 (by omega) (by omega) (by decide) (by decide) (by decide)))
local macro_rules | `(tactic| walk_at "len") => `(tactic| focus ((try simp only [List.length_cons, List.length_nil, List.length_append, List.length_replicate, List.length_map]) <;> (first | omega | with_reducible assumption)))
local macro_rules | `(tactic| walk_at "at") => `(tactic| (first | with_reducible assumption | exact rfl))
local macro_rules | `(tactic| walk_at "eq") => `(tactic| (first | with_reducible assumption | with_reducible exact EV.eqI _ _ | with_reducible exact EV.neI _ _))
local macro_rules | `(tactic| walk_at "rep") => `(tactic| (with_reducible assumption))
local macro_rules | `(tactic| walk_at "in") => `(tactic| (first | with_reducible assumption | exact rfl))
local macro_rules | `(tactic| walk_at "ss") => `(tactic| (with_reducible assumption))
local macro_rules | `(tactic| walk_at "tru") => `(tactic| (first | exact rfl | with_reducible assumption))
local macro_rules | `(tactic| walk_at "call") => `(tactic| (with_reducible assumption))
local macro_rules | `(tactic| walk_at "aug") => `(tactic| (exact rfl))
local macro_rules | `(tactic| walk_at "bt") => `(tactic| (first | exact rfl | with_reducible assumption | (simp only [decide_eq_true_eq, decide_eq_false_iff_not, Bool.not_eq_true', Bool.not_eq_false', Bool.and_eq_true, Bool.or_eq_true, Bool.and_eq_false_iff, Bool.or_eq_false_iff, beq_iff_eq, beq_eq_false_iff_ne, ne_eq]; omega)))
local macro_rules | `(tactic| walk_at "get") => `(tactic| (first | with_reducible assumption | exact rfl))
local macro_rules | `(tactic| walk_at "ck") => `(tactic| (apply EV.ckY; (walk_at "gt"); (first | exact EV.yes | walk_at "ev"); (walk_at "bt"); (walk_at "ev"); (walk_at "ev"); (walk_at "get")))
local macro_rules | `(tactic| walk_at "ev") => `(tactic| first | ((with_reducible apply EV.for_); (walk_at "ev"); (walk_at "call")) | fail)
local macro_rules | `(tactic| walk_at "ev") => `(tactic| first | ((with_reducible apply EV.augO); (exact rfl); (walk_at "ev"); (exact rfl); (walk_at "side"); (walk_at "at"); (walk_at "at"); (walk_at "ev"); (walk_at "aug"); (exact rfl); (walk_at "set")) | fail)
local macro_rules | `(tactic| walk_at "ev") => `(tactic| first | ((with_reducible apply EV.aug); (exact rfl); (walk_at "ev"); (exact rfl); (walk_at "aug"); (walk_at "set")) | fail)
local macro_rules | `(tactic| walk_at "ev") => `(tactic| first | ((with_reducible apply EV.ifF); (walk_at "ev"); (walk_at "bt"); (walk_at "ev")) | fail)
local macro_rules | `(tactic| walk_at "ev") => `(tactic| first | ((with_reducible apply EV.ifT); (walk_at "ev"); (walk_at "bt"); (walk_at "ev")) | fail)
local macro_rules | `(tactic| walk_at "ev") => `(tactic| first | ((with_reducible apply EV.ret); (walk_at "ev")) | fail)
local macro_rules | `(tactic| walk_at "ev") => `(tactic| first | ((with_reducible apply EV.dropX); (walk_at "ev")) | fail)
local macro_rules | `(tactic| walk_at "ev") => `(tactic| first | ((with_reducible apply EV.drop); (walk_at "ev")) | fail)
local macro_rules | `(tactic| walk_at "ev") => `(tactic| first | ((with_reducible apply EV.asgX); (walk_at "ev")) | fail)
local macro_rules | `(tactic| walk_at "ev") => `(tactic| first | ((with_reducible apply EV.asgN); (walk_at "ev"); (walk_at "ev")) | fail)
local macro_rules | `(tactic| walk_at "ev") => `(tactic| first | ((with_reducible apply EV.asgS); (walk_at "ev"); (walk_at "ev")) | fail)
local macro_rules | `(tactic| walk_at "ev") => `(tactic| first | ((with_reducible apply EV.asgV); (walk_at "ev"); (walk_at "ev")) | fail)
local macro_rules | `(tactic| walk_at "ev") => `(tactic| first | ((with_reducible apply EV.seqX); (walk_at "ev")) | fail)
local macro_rules | `(tactic| walk_at "ev") => `(tactic| first | ((with_reducible apply EV.seqR); (walk_at "ev"); (exact rfl)) | fail)
local macro_rules | `(tactic| walk_at "ev") => `(tactic| first | ((with_reducible apply EV.seq); (walk_at "ev"); (walk_at "ev")) | fail)
local macro_rules | `(tactic| walk_at "ev") => `(tactic| first | ((with_reducible exact EV.nxt)) | fail)
local macro_rules | `(tactic| walk_at "ev") => `(tactic| first | ((with_reducible apply EV.shNT); (walk_at "ev"); (exact rfl)) | fail)
local macro_rules | `(tactic| walk_at "ev") => `(tactic| first | ((with_reducible apply EV.callX); (walk_at "ev"); (walk_at "pars"); (walk_at "norm"); (walk_at "call"); (exact rfl); (walk_at "back")) | fail)
local macro_rules | `(tactic| walk_at "ev") => `(tactic| first | ((with_reducible apply EV.callK); (walk_at "ev"); (walk_at "pars"); (walk_at "norm"); (walk_at "call"); (exact rfl); (walk_at "back")) | fail)
local macro_rules | `(tactic| walk_at "ev") => `(tactic| first | ((with_reducible apply EV.keysX); (walk_at "ev")) | fail)
local macro_rules | `(tactic| walk_at "ev") => `(tactic| first | ((with_reducible apply EV.keysK); (walk_at "ev")) | fail)
local macro_rules | `(tactic| walk_at "ev") => `(tactic| first | ((with_reducible apply EV.dcomp); (walk_at "ev"); (walk_at "call"); (walk_at "restore")) | fail)
local macro_rules | `(tactic| walk_at "ev") => `(tactic| first | ((with_reducible apply EV.disp); (walk_at "ev"); (walk_at "get")) | fail)
local macro_rules | `(tactic| walk_at "ev") => `(tactic| first | ((with_reducible apply EV.make); (walk_at "ev"); (walk_at "pars"); (walk_at "norm"); (walk_at "call"); (exact rfl); (walk_at "back")) | fail)
local macro_rules | `(tactic| walk_at "ev") => `(tactic| first | ((with_reducible apply EV.methX); (exact rfl); (exact rfl); (walk_at "ev")) | fail)
local macro_rules | `(tactic| walk_at "ev") => `(tactic| first | ((with_reducible apply EV.meth); (exact rfl); (exact rfl); (walk_at "ev")) | fail)
local macro_rules | `(tactic| walk_at "ev") => `(tactic| first | ((with_reducible apply EV.gFld); (exact rfl); (decide); (exact rfl)) | fail)
local macro_rules | `(tactic| walk_at "ev") => `(tactic| first | ((with_reducible apply EV.gDkP); (exact rfl); (exact rfl); (walk_at "set"); (walk_at "ev"); (exact rfl); (walk_at "get"); (exact rfl)) | fail)
local macro_rules | `(tactic| walk_at "ev") => `(tactic| first | ((with_reducible apply EV.getDP); (exact rfl); (exact rfl); (walk_at "set"); (walk_at "ev"); (exact rfl); (walk_at "get"); (walk_at "set")) | fail)
local macro_rules | `(tactic| walk_at "ev") => `(tactic| first | ((with_reducible apply EV.inP); (walk_at "ev"); (exact rfl); (exact rfl); (walk_at "get"); (exact rfl)) | fail)
local macro_rules | `(tactic| walk_at "ev") => `(tactic| first | ((with_reducible apply EV.popP); (exact rfl); (exact rfl); (exact rfl); (exact rfl)) | fail)
local macro_rules | `(tactic| walk_at "ev") => `(tactic| first | ((with_reducible apply EV.appP); (exact rfl); (exact rfl); (walk_at "set"); (walk_at "ev"); (exact rfl); (walk_at "len"); (exact rfl)) | fail)
local macro_rules | `(tactic| walk_at "ev") => `(tactic| first | ((with_reducible apply EV.getP); (exact rfl); (exact rfl); (exact rfl); (exact rfl)) | fail)
local macro_rules | `(tactic| walk_at "ev") => `(tactic| first | ((with_reducible apply EV.shTp); (exact rfl); (with_reducible assumption); (walk_at "set")) | fail)
local macro_rules | `(tactic| walk_at "ev") => `(tactic| first | ((with_reducible apply EV.varP); (exact rfl)) | fail)
local macro_rules | `(tactic| walk_at "ev") => `(tactic| first | ((with_reducible apply EV.varO); (exact rfl)) | fail)
local macro_rules | `(tactic| walk_at "ev") => `(tactic| first | ((with_reducible apply EV.callXG); (walk_at "ev"); (walk_at "pars"); (walk_at "norm"); (walk_at "call"); (exact rfl); (exact rfl); (walk_at "back")) | fail)
local macro_rules | `(tactic| walk_at "ev") => `(tactic| first | ((with_reducible apply EV.callG); (walk_at "ev"); (walk_at "pars"); (walk_at "norm"); (walk_at "call"); (exact rfl); (exact rfl); (walk_at "back")) | fail)
local macro_rules | `(tactic| walk_at "ev") => `(tactic| first | ((with_reducible apply EV.tupO); (walk_at "ev"); (walk_at "len")) | fail)
local macro_rules | `(tactic| walk_at "ev") => `(tactic| first | ((with_reducible apply EV.prC); (walk_at "ev"); (walk_at "ev"); (walk_at "ev")) | fail)
local macro_rules | `(tactic| walk_at "ev") => `(tactic| first | ((with_reducible exact EV.prN)) | fail)
local macro_rules | `(tactic| walk_at "ev") => `(tactic| first | ((with_reducible apply EV.gK); (exact rfl); (exact rfl); (walk_at "ev"); (exact rfl); (walk_at "get"); (walk_at "set")) | fail)
local macro_rules | `(tactic| walk_at "ev") => `(tactic| first | ((with_reducible apply EV.inK); (walk_at "ev"); (exact rfl); (walk_at "get"); (exact rfl)) | fail)
local macro_rules | `(tactic| walk_at "ev") => `(tactic| first | ((with_reducible apply EV.getF); (walk_at "ev"); (walk_at "ev"); (walk_at "get")) | fail)
local macro_rules | `(tactic| walk_at "ev") => `(tactic| first | ((with_reducible apply EV.getO); (exact rfl); (exact rfl); (walk_at "ev"); (exact rfl); (walk_at "get")) | fail)
local macro_rules | `(tactic| walk_at "ev") => `(tactic| first | ((with_reducible apply EV.shX); (exact rfl); (walk_at "set")) | fail)
local macro_rules | `(tactic| walk_at "ev") => `(tactic| first | ((with_reducible apply EV.shK); (exact rfl); (walk_at "set")) | fail)
local macro_rules | `(tactic| walk_at "ev") => `(tactic| first | ((with_reducible apply EV.varX); (exact rfl)) | fail)
local macro_rules | `(tactic| walk_at "ev") => `(tactic| first | ((with_reducible apply EV.varK); (exact rfl)) | fail)
local macro_rules | `(tactic| walk_at "ev") => `(tactic| first | ((with_reducible exact EV.mNewK)) | fail)
local macro_rules | `(tactic| walk_at "ev") => `(tactic| first | ((with_reducible exact EV.newK)) | fail)
local macro_rules | `(tactic| walk_at "ev") => `(tactic| first | ((with_reducible apply EV.isX); (walk_at "ev"); (with_reducible assumption); (with_reducible assumption)) | fail)
local macro_rules | `(tactic| walk_at "ev") => `(tactic| first | ((with_reducible exact EV.raise)) | fail)
local macro_rules | `(tactic| walk_at "ev") => `(tactic| first | ((with_reducible apply EV.inD); (walk_at "ev"); (walk_at "ev"); (with_reducible assumption)) | fail)
local macro_rules | `(tactic| walk_at "ev") => `(tactic| first | ((with_reducible apply EV.ixAF); (exact rfl); (walk_at "ev"); (walk_at "at")) | fail)
local macro_rules | `(tactic| walk_at "ev") => `(tactic| first | ((with_reducible apply EV.setO); (exact rfl); (walk_at "ev"); (exact rfl); (walk_at "at"); (walk_at "set")) | fail)
local macro_rules | `(tactic| walk_at "ev") => `(tactic| first | ((with_reducible apply EV.gLst); (exact rfl); (try simp only [List.map_cons, List.map_nil]); (walk_at "ev")) | fail)
local macro_rules | `(tactic| walk_at "ev") => `(tactic| first | ((with_reducible apply EV.gTup); (exact rfl); (try simp only [List.map_cons, List.map_nil]); (walk_at "ev")) | fail)
local macro_rules | `(tactic| walk_at "ev") => `(tactic| first | ((with_reducible apply EV.gsC); (walk_at "ev"); (walk_at "ev")) | fail)
local macro_rules | `(tactic| walk_at "ev") => `(tactic| first | ((with_reducible exact EV.gsN)) | fail)
local macro_rules | `(tactic| walk_at "ev") => `(tactic| first | ((with_reducible apply EV.gName); (walk_at "set")) | fail)
local macro_rules | `(tactic| walk_at "ev") => `(tactic| first | ((with_reducible apply EV.rvs); (walk_at "ev")) | fail)
local macro_rules | `(tactic| walk_at "ev") => `(tactic| first | ((with_reducible apply EV.enmT); (walk_at "ev")) | fail)
local macro_rules | `(tactic| walk_at "ev") => `(tactic| first | ((with_reducible apply EV.enmL); (walk_at "ev")) | fail)
local macro_rules | `(tactic| walk_at "ev") => `(tactic| first | ((with_reducible apply EV.enm); (walk_at "ev")) | fail)
local macro_rules | `(tactic| walk_at "ev") => `(tactic| first | ((with_reducible apply EV.zpT); (walk_at "ev")) | fail)
local macro_rules | `(tactic| walk_at "ev") => `(tactic| first | ((with_reducible apply EV.zpL); (walk_at "ev")) | fail)
local macro_rules | `(tactic| walk_at "ev") => `(tactic| first | ((with_reducible apply EV.rg3); (walk_at "ev"); (walk_at "side")) | fail)
local macro_rules | `(tactic| walk_at "ev") => `(tactic| first | ((with_reducible apply EV.rg2); (walk_at "ev"); (walk_at "side")) | fail)
local macro_rules | `(tactic| walk_at "ev") => `(tactic| first | ((with_reducible apply EV.rg1); (walk_at "ev"); (walk_at "side"); (walk_at "side")) | fail)
local macro_rules | `(tactic| walk_at "ev") => `(tactic| first | ((with_reducible apply EV.itT); (walk_at "ev")) | fail)
local macro_rules | `(tactic| walk_at "ev") => `(tactic| first | ((with_reducible apply EV.itL); (walk_at "ev")) | fail)
local macro_rules | `(tactic| walk_at "ev") => `(tactic| first | ((with_reducible exact EV.yes)) | fail)
local macro_rules | `(tactic| walk_at "ev") => `(tactic| first | ((with_reducible apply EV.allG); (walk_at "ev"); (walk_at "call"); (walk_at "restore")) | fail)
local macro_rules | `(tactic| walk_at "ev") => `(tactic| first | ((with_reducible apply EV.ssc); (walk_at "ev"); (walk_at "call"); (walk_at "restore"); (walk_at "ss"); (walk_at "ss")) | fail)
local macro_rules | `(tactic| walk_at "ev") => `(tactic| first | ((with_reducible apply EV.tupG); (walk_at "ev"); (walk_at "call"); (walk_at "restore")) | fail)
local macro_rules | `(tactic| walk_at "ev") => `(tactic| first | ((with_reducible apply EV.comp2); (walk_at "ev"); (walk_at "call"); (walk_at "restore")) | fail)
local macro_rules | `(tactic| walk_at "ev") => `(tactic| first | ((with_reducible apply EV.comp); (walk_at "ev"); (walk_at "call"); (walk_at "restore")) | fail)
local macro_rules | `(tactic| walk_at "ev") => `(tactic| first | ((with_reducible apply EV.pop); (exact rfl); (walk_at "set")) | fail)
local macro_rules | `(tactic| walk_at "ev") => `(tactic| first | ((with_reducible apply EV.ext); (exact rfl); (walk_at "ev"); (exact rfl); (walk_at "len"); (walk_at "set")) | fail)
local macro_rules | `(tactic| walk_at "ev") => `(tactic| first | ((with_reducible apply EV.appT); (exact rfl); (walk_at "ev"); (exact rfl); (walk_at "len"); (walk_at "set")) | fail)
local macro_rules | `(tactic| walk_at "ev") => `(tactic| first | ((with_reducible apply EV.insE); (exact rfl); (walk_at "ev"); (walk_at "ev"); (exact rfl); (walk_at "len"); (walk_at "len"); (walk_at "set")) | fail)
local macro_rules | `(tactic| walk_at "ev") => `(tactic| first | ((with_reducible apply EV.app); (exact rfl); (walk_at "ev"); (exact rfl); (walk_at "len"); (walk_at "set")) | fail)
local macro_rules | `(tactic| walk_at "ev") => `(tactic| first | ((with_reducible apply EV.ixO); (exact rfl); (walk_at "ev"); (exact rfl); (walk_at "at")) | fail)
local macro_rules | `(tactic| walk_at "ev") => `(tactic| first | ((with_reducible apply EV.callXE); (walk_at "ev"); (walk_at "pars"); (walk_at "norm"); (walk_at "call"); (exact rfl); (walk_at "back")) | fail)
local macro_rules | `(tactic| walk_at "ev") => `(tactic| first | ((with_reducible apply EV.callXN); (walk_at "ev"); (walk_at "pars"); (walk_at "norm"); (walk_at "call"); (exact rfl); (walk_at "back")) | fail)
local macro_rules | `(tactic| walk_at "ev") => `(tactic| first | ((with_reducible apply EV.callXS); (walk_at "ev"); (walk_at "pars"); (walk_at "norm"); (walk_at "call"); (exact rfl); (walk_at "back")) | fail)
local macro_rules | `(tactic| walk_at "ev") => `(tactic| first | ((with_reducible apply EV.callN); (walk_at "ev"); (walk_at "pars"); (walk_at "norm"); (walk_at "call"); (exact rfl); (walk_at "back")) | fail)
local macro_rules | `(tactic| walk_at "ev") => `(tactic| first | ((with_reducible apply EV.callS); (walk_at "ev"); (walk_at "pars"); (walk_at "norm"); (walk_at "call"); (exact rfl); (walk_at "back")) | fail)
local macro_rules | `(tactic| walk_at "ev") => `(tactic| first | ((with_reducible apply EV.xnot); (walk_at "ev")) | fail)
local macro_rules | `(tactic| walk_at "ev") => `(tactic| first | ((with_reducible apply EV.xblS); (walk_at "ev")) | fail)
local macro_rules | `(tactic| walk_at "ev") => `(tactic| first | ((with_reducible apply EV.xb); (walk_at "ev")) | fail)
local macro_rules | `(tactic| walk_at "ev") => `(tactic| first | ((with_reducible apply EV.xl); (walk_at "ev")) | fail)
local macro_rules | `(tactic| walk_at "ev") => `(tactic| first | ((with_reducible apply EV.chn); (walk_at "ev"); (walk_at "ev"); (exact rfl); (walk_at "ev"); (exact rfl)) | fail)
local macro_rules | `(tactic| walk_at "ev") => `(tactic| first | ((with_reducible apply EV.ifEF); (walk_at "ev"); (walk_at "bt"); (walk_at "ev")) | fail)
local macro_rules | `(tactic| walk_at "ev") => `(tactic| first | ((with_reducible apply EV.ifET); (walk_at "ev"); (walk_at "bt"); (walk_at "ev")) | fail)
local macro_rules | `(tactic| walk_at "ev") => `(tactic| first | ((with_reducible apply EV.scalT); (walk_at "frz"); (walk_at "ev")) | fail)
local macro_rules | `(tactic| walk_at "ev") => `(tactic| first | ((with_reducible apply EV.boolW); (walk_at "ev")) | fail)
local macro_rules | `(tactic| walk_at "ev") => `(tactic| first | ((with_reducible apply EV.orF); (walk_at "ev"); (walk_at "bt"); (walk_at "ev")) | fail)
local macro_rules | `(tactic| walk_at "ev") => `(tactic| first | ((with_reducible apply EV.orT); (walk_at "ev"); (walk_at "bt")) | fail)
local macro_rules | `(tactic| walk_at "ev") => `(tactic| first | ((with_reducible apply EV.andT); (walk_at "ev"); (walk_at "bt"); (walk_at "ev")) | fail)
local macro_rules | `(tactic| walk_at "ev") => `(tactic| first | ((with_reducible apply EV.andF); (walk_at "ev"); (walk_at "bt")) | fail)
local macro_rules | `(tactic| walk_at "ev") => `(tactic| first | ((with_reducible apply EV.or); (walk_at "ev"); (walk_at "ev")) | fail)
local macro_rules | `(tactic| walk_at "ev") => `(tactic| first | ((with_reducible apply EV.and); (walk_at "ev"); (walk_at "ev")) | fail)
local macro_rules | `(tactic| walk_at "ev") => `(tactic| first | ((with_reducible apply EV.not); (walk_at "ev")) | fail)
local macro_rules | `(tactic| walk_at "ev") => `(tactic| first | ((with_reducible apply EV.tru); (walk_at "ev"); (walk_at "tru")) | fail)
local macro_rules | `(tactic| walk_at "ev") => `(tactic| first | ((with_reducible apply EV.bl); (walk_at "ev")) | fail)
local macro_rules | `(tactic| walk_at "ev") => `(tactic| first | ((with_reducible apply EV.srt); (walk_at "ev"); (walk_at "ss")) | fail)
local macro_rules | `(tactic| walk_at "ev") => `(tactic| first | ((with_reducible apply EV.ssL); (walk_at "ev"); (walk_at "ss")) | fail)
local macro_rules | `(tactic| walk_at "ev") => `(tactic| first | ((with_reducible apply EV.ss); (walk_at "ev"); (walk_at "ss")) | fail)
local macro_rules | `(tactic| walk_at "ev") => `(tactic| first | ((with_reducible apply EV.slT); (walk_at "ev"); (walk_at "ev"); (walk_at "ev")) | fail)
local macro_rules | `(tactic| walk_at "ev") => `(tactic| first | ((with_reducible apply EV.slL); (walk_at "ev"); (walk_at "ev"); (walk_at "ev")) | fail)
local macro_rules | `(tactic| walk_at "ev") => `(tactic| first | ((with_reducible apply EV.pA); (walk_at "ev")) | fail)
local macro_rules | `(tactic| walk_at "ev") => `(tactic| first | ((with_reducible exact EV.pN)) | fail)
local macro_rules | `(tactic| walk_at "ev") => `(tactic| first | ((with_reducible apply EV.ltT); (walk_at "ev"); (walk_at "ev"); (walk_at "side"); (walk_at "side")) | fail)
local macro_rules | `(tactic| walk_at "ev") => `(tactic| first | ((with_reducible apply EV.lst); (walk_at "ev"); (walk_at "len")) | fail)
local macro_rules | `(tactic| walk_at "ev") => `(tactic| first | ((with_reducible apply EV.tup); (walk_at "ev"); (walk_at "len")) | fail)
local macro_rules | `(tactic| walk_at "ev") => `(tactic| first | ((with_reducible apply EV.revL); (walk_at "ev")) | fail)
local macro_rules | `(tactic| walk_at "ev") => `(tactic| first | ((with_reducible apply EV.revT); (walk_at "ev")) | fail)
local macro_rules | `(tactic| walk_at "ev") => `(tactic| first | ((with_reducible apply EV.isi); (walk_at "ev"); (exact rfl)) | fail)
local macro_rules | `(tactic| walk_at "ev") => `(tactic| first | ((with_reducible apply EV.inR); (walk_at "ev"); (walk_at "ev")) | fail)
local macro_rules | `(tactic| walk_at "ev") => `(tactic| first | ((with_reducible apply EV.inG); (walk_at "ev"); (walk_at "ev"); (walk_at "in")) | fail)
local macro_rules | `(tactic| walk_at "ev") => `(tactic| first | ((with_reducible apply EV.strI); (walk_at "ev"); (walk_at "side")) | fail)
local macro_rules | `(tactic| walk_at "ev") => `(tactic| first | ((with_reducible apply EV.intB); (walk_at "ev")) | fail)
local macro_rules | `(tactic| walk_at "ev") => `(tactic| first | ((with_reducible apply EV.intI); (walk_at "ev")) | fail)
local macro_rules | `(tactic| walk_at "ev") => `(tactic| first | ((with_reducible apply EV.min2); (walk_at "ev"); (walk_at "ev")) | fail)
local macro_rules | `(tactic| walk_at "ev") => `(tactic| first | ((with_reducible apply EV.max2); (walk_at "ev"); (walk_at "ev")) | fail)
local macro_rules | `(tactic| walk_at "ev") => `(tactic| first | ((with_reducible apply EV.rep); (walk_at "ev"); (walk_at "rep")) | fail)
local macro_rules | `(tactic| walk_at "ev") => `(tactic| first | ((with_reducible apply EV.lisT); (walk_at "ev")) | fail)
local macro_rules | `(tactic| walk_at "ev") => `(tactic| first | ((with_reducible apply EV.lisL); (walk_at "ev")) | fail)
local macro_rules | `(tactic| walk_at "ev") => `(tactic| first | ((with_reducible apply EV.tupT); (walk_at "ev")) | fail)
local macro_rules | `(tactic| walk_at "ev") => `(tactic| first | ((with_reducible apply EV.tupL); (walk_at "ev")) | fail)
local macro_rules | `(tactic| walk_at "ev") => `(tactic| first | ((with_reducible apply EV.lenS); (walk_at "ev"); (walk_at "len")) | fail)
local macro_rules | `(tactic| walk_at "ev") => `(tactic| first | ((with_reducible apply EV.lenR); (walk_at "ev")) | fail)
local macro_rules | `(tactic| walk_at "ev") => `(tactic| first | ((with_reducible apply EV.lenT); (walk_at "ev")) | fail)
local macro_rules | `(tactic| walk_at "ev") => `(tactic| first | ((with_reducible apply EV.lenL); (walk_at "ev")) | fail)
local macro_rules | `(tactic| walk_at "ev") => `(tactic| first | ((with_reducible apply EV.mulL); (walk_at "ev"); (walk_at "ev"); (walk_at "side"); (walk_at "side")) | fail)
local macro_rules | `(tactic| walk_at "ev") => `(tactic| first | ((with_reducible apply EV.catS); (walk_at "ev"); (walk_at "ev"); (walk_at "len")) | fail)
local macro_rules | `(tactic| walk_at "ev") => `(tactic| first | ((with_reducible apply EV.catL); (walk_at "ev"); (walk_at "ev"); (walk_at "len")) | fail)
local macro_rules | `(tactic| walk_at "ev") => `(tactic| first | ((with_reducible apply EV.catT); (walk_at "ev"); (walk_at "ev"); (walk_at "len")) | fail)
local macro_rules | `(tactic| walk_at "ev") => `(tactic| first | ((with_reducible apply EV.ixT); (walk_at "ev"); (walk_at "ev"); (walk_at "at")) | fail)
local macro_rules | `(tactic| walk_at "ev") => `(tactic| first | ((with_reducible apply EV.ixL); (walk_at "ev"); (walk_at "ev"); (walk_at "at")) | fail)
local macro_rules | `(tactic| walk_at "ev") => `(tactic| first | ((with_reducible apply EV.notN); (walk_at "ev"); (walk_at "ev")) | fail)
local macro_rules | `(tactic| walk_at "ev") => `(tactic| first | ((with_reducible apply EV.isN); (walk_at "ev"); (walk_at "ev")) | fail)
local macro_rules | `(tactic| walk_at "ev") => `(tactic| first | ((with_reducible apply EV.neG); (walk_at "ev"); (walk_at "ev"); (walk_at "eq")) | fail)
local macro_rules | `(tactic| walk_at "ev") => `(tactic| first | ((with_reducible apply EV.eqG); (walk_at "ev"); (walk_at "ev"); (walk_at "eq")) | fail)
local macro_rules | `(tactic| walk_at "ev") => `(tactic| first | ((with_reducible apply EV.neg); (walk_at "ev")) | fail)
local macro_rules | `(tactic| walk_at "ev") => `(tactic| first | ((with_reducible apply EV.ge); (walk_at "ev"); (walk_at "ev")) | fail)
local macro_rules | `(tactic| walk_at "ev") => `(tactic| first | ((with_reducible apply EV.gt); (walk_at "ev"); (walk_at "ev")) | fail)
local macro_rules | `(tactic| walk_at "ev") => `(tactic| first | ((with_reducible apply EV.le); (walk_at "ev"); (walk_at "ev")) | fail)
local macro_rules | `(tactic| walk_at "ev") => `(tactic| first | ((with_reducible apply EV.lt); (walk_at "ev"); (walk_at "ev")) | fail)
local macro_rules | `(tactic| walk_at "ev") => `(tactic| first | ((with_reducible apply EV.bxor); (walk_at "ev"); (walk_at "ev")) | fail)
local macro_rules | `(tactic| walk_at "ev") => `(tactic| first | ((with_reducible apply EV.bor); (walk_at "ev"); (walk_at "ev")) | fail)
local macro_rules | `(tactic| walk_at "ev") => `(tactic| first | ((with_reducible apply EV.band); (walk_at "ev"); (walk_at "ev")) | fail)
local macro_rules | `(tactic| walk_at "ev") => `(tactic| first | ((with_reducible apply EV.shr); (walk_at "ev"); (walk_at "ev"); (walk_at "side")) | fail)
local macro_rules | `(tactic| walk_at "ev") => `(tactic| first | ((with_reducible apply EV.shl); (walk_at "ev"); (walk_at "ev"); (walk_at "side")) | fail)
local macro_rules | `(tactic| walk_at "ev") => `(tactic| first | ((with_reducible apply EV.pow); (walk_at "ev"); (walk_at "ev"); (walk_at "side")) | fail)
local macro_rules | `(tactic| walk_at "ev") => `(tactic| first | ((with_reducible apply EV.div); (walk_at "ev"); (walk_at "ev"); (walk_at "side")) | fail)
local macro_rules | `(tactic| walk_at "ev") => `(tactic| first | ((with_reducible apply EV.mod); (walk_at "ev"); (walk_at "ev"); (walk_at "side")) | fail)
local macro_rules | `(tactic| walk_at "ev") => `(tactic| first | ((with_reducible apply EV.mul); (walk_at "ev"); (walk_at "ev"); (walk_at "mul")) | fail)
local macro_rules | `(tactic| walk_at "ev") => `(tactic| first | ((with_reducible apply EV.sub); (walk_at "ev"); (walk_at "ev")) | fail)
local macro_rules | `(tactic| walk_at "ev") => `(tactic| first | ((with_reducible apply EV.add); (walk_at "ev"); (walk_at "ev")) | fail)
local macro_rules | `(tactic| walk_at "ev") => `(tactic| first | ((with_reducible apply EV.mN); (walk_at "ev")) | fail)
local macro_rules | `(tactic| walk_at "ev") => `(tactic| first | ((with_reducible apply EV.mS); (walk_at "ev")) | fail)
local macro_rules | `(tactic| walk_at "ev") => `(tactic| first | ((with_reducible apply EV.mvML); (exact rfl); (walk_at "set")) | fail)
local macro_rules | `(tactic| walk_at "ev") => `(tactic| first | ((with_reducible apply EV.mvMF); (exact rfl); (walk_at "set")) | fail)
local macro_rules | `(tactic| walk_at "ev") => `(tactic| first | ((with_reducible apply EV.mO); (exact rfl); (walk_at "set")) | fail)
local macro_rules | `(tactic| walk_at "ev") => `(tactic| first | ((with_reducible apply EV.mV); (exact rfl)) | fail)
local macro_rules | `(tactic| walk_at "ev") => `(tactic| first | ((with_reducible apply EV.mc); (walk_at "ev"); (walk_at "ev")) | fail)
local macro_rules | `(tactic| walk_at "ev") => `(tactic| first | ((with_reducible exact EV.mn)) | fail)
local macro_rules | `(tactic| walk_at "ev") => `(tactic| first | ((with_reducible apply EV.ac); (walk_at "ev"); (walk_at "ev")) | fail)
local macro_rules | `(tactic| walk_at "ev") => `(tactic| first | ((with_reducible exact EV.an)) | fail)
local macro_rules | `(tactic| walk_at "ev") => `(tactic| first | ((with_reducible apply EV.fc); (walk_at "ev"); (walk_at "ev")) | fail)
local macro_rules | `(tactic| walk_at "ev") => `(tactic| first | ((with_reducible exact EV.fn)) | fail)
local macro_rules | `(tactic| walk_at "ev") => `(tactic| first | ((with_reducible apply EV.varL); (exact rfl)) | fail)
local macro_rules | `(tactic| walk_at "ev") => `(tactic| first | ((with_reducible apply EV.varF); (exact rfl)) | fail)
local macro_rules | `(tactic| walk_at "ev") => `(tactic| first | ((with_reducible exact EV.cW _)) | fail)
local macro_rules | `(tactic| walk_at "ev") => `(tactic| first | ((with_reducible apply EV.lift); (walk_at "ev")) | fail)
local macro_rules | `(tactic| walk_at "ev") => `(tactic| first | ((with_reducible apply EV.scal); (walk_at "frz"); (walk_at "ev"); (exact rfl)) | fail)
local macro_rules | `(tactic| walk_at "ev") => `(tactic| first | ((with_reducible apply EV.shN); (walk_at "ev")) | fail)
local macro_rules | `(tactic| walk_at "ev") => `(tactic| first | ((with_reducible apply EV.shS); (walk_at "ev")) | fail)
local macro_rules | `(tactic| walk_at "ev") => `(tactic| first | ((with_reducible exact EV.cE _)) | fail)
local macro_rules | `(tactic| walk_at "ev") => `(tactic| first | ((with_reducible apply EV.shD); (exact rfl); (with_reducible assumption); (walk_at "set")) | fail)
local macro_rules | `(tactic| walk_at "ev") => `(tactic| first | ((with_reducible apply EV.shO); (exact rfl); (walk_at "set")) | fail)
local macro_rules | `(tactic| walk_at "ev") => `(tactic| first | ((with_reducible apply EV.shV); (exact rfl)) | fail)
local macro_rules | `(tactic| walk_at "st") => `(tactic| ((with_reducible apply EV.seq); (walk_at "ev")))
local macro_rules | `(tactic| walk_at "le") => `(tactic| (exact Nat.le_of_ble_eq_true rfl))
local macro_rules | `(tactic| walk_at "fin") => `(tactic| first
  | ((apply EV.finS); (walk_at "le"); (walk_at "out"))
  | ((apply EV.finN); (walk_at "le"); (walk_at "out"))
  | ((apply EV.finV); (decide); (exact rfl); (walk_at "le"); (walk_at "out"))
  | ((apply EV.finW); (decide); (exact rfl); (walk_at "le"); (walk_at "out"))
  | ((apply EV.finVK); (decide); (exact rfl); (walk_at "le"); (walk_at "out"))
  | ((apply EV.finVX); (decide); (exact rfl); (walk_at "le"); (walk_at "out"))
  | ((apply EV.finP); (decide); (walk_at "ev"); (walk_at "le"); (walk_at "out"))
  | ((apply EV.finNx); (walk_at "le"); (walk_at "out"))
  | ((apply EV.finEx); (walk_at "le"); (walk_at "out")))
local macro_rules | `(tactic| walk_at "for") => `(tactic| ((with_reducible apply EV.seq); (with_reducible apply EV.for_); (walk_at "ev")))
local macro_rules | `(tactic| walk_at "gt") => `(tactic| ((simp only [wipeT, List.set_cons_succ, List.set_cons_zero]); (walk_at "ev")))
local macro_rules | `(tactic| walk_at "cc") => `(tactic| (apply EV.ccY; (walk_at "gt"); (first | exact EV.yes | walk_at "ev"); (walk_at "bt"); (walk_at "ev"); (walk_at "len")))
local macro_rules | `(tactic| walk_at "cn") => `(tactic| (apply EV.ccN; (walk_at "gt"); (walk_at "ev"); (walk_at "bt")))
local macro_rules | `(tactic| walk_at "rt") => `(tactic| ((with_reducible apply EV.seqR); (walk_at "ev"); (exact rfl)))
local macro_rules | `(tactic| walk_at "gg") => `(tactic| (apply EV.gt1; (walk_at "gt"); (walk_at "ev"); (walk_at "len")))
local macro_rules | `(tactic| walk_at "gs") => `(tactic| (apply EV.gs1; (walk_at "gt"); (walk_at "ev"); (walk_at "ss"); (walk_at "len")))
set_option Elab.async false
set_option linter.all false
set_option maxRecDepth 100000
set_option maxHeartbeats 4000000
namespace KQ
open PySem PySem.Spec PyProof.Rows L2 Q
variable [TbS]
def topS (i : Nat) : Stmt := PySem.Challenge.pw_roadsay_k68_sayings_as_texts.main.body.getD i (.Pass ⟨0, 0, 0, 0⟩)
def FU : Nat := 190
def t_FIELD_MARKS : List (Str × Str) := [("=", "is"), (":", "put")]
def t_FIELD_WORDS : List Str := ["is", "put"]
def t_JOINTS : List (Str × Str) := [(";", "then"), ("|", "either")]
def t_LENGTHS : List (Str × Int) := [("yes", 1), ("no", 1), ("note", 1), ("is", 3), ("put", 3), ("then", 3), ("either", 3), ("again", 2), ("not", 2)]
def t_NO_NAMES : List Str := ["yes", "no", "note", "not", "again"]
def t_OPENINGS : List (Str × Str) := [("(", "("), ("not(", "not"), ("again(", "again")]
def t_SINGLE_WORDS : List Str := ["yes", "no", "note"]
def t_TEST_WORDS : List Str := ["yes", "no", "is", "then", "either", "not"]
def tok_LONGEST_NAME (mg : Str → Option Value) : Tok := match mg "LONGEST_NAME" with
  | some (.int _ t) => t
  | _ => 0
def tok_MOST_FIELDS (mg : Str → Option Value) : Tok := match mg "MOST_FIELDS" with
  | some (.int _ t) => t
  | _ => 0
def tok_MOST_LETTERS (mg : Str → Option Value) : Tok := match mg "MOST_LETTERS" with
  | some (.int _ t) => t
  | _ => 0
def tok_MOST_NOTES (mg : Str → Option Value) : Tok := match mg "MOST_NOTES" with
  | some (.int _ t) => t
  | _ => 0
def tok_MOST_OPEN (mg : Str → Option Value) : Tok := match mg "MOST_OPEN" with
  | some (.int _ t) => t
  | _ => 0
def tok_MOST_VALUES (mg : Str → Option Value) : Tok := match mg "MOST_VALUES" with
  | some (.int _ t) => t
  | _ => 0
def tok_SHORTEST_NAME (mg : Str → Option Value) : Tok := match mg "SHORTEST_NAME" with
  | some (.int _ t) => t
  | _ => 0
def tok_FIELD_SIGNS (mg : Str → Option Value) : Tok := match mg "FIELD_SIGNS" with
  | some (.str _ t) => t
  | _ => 0
def tok_FIGURES (mg : Str → Option Value) : Tok := match mg "FIGURES" with
  | some (.str _ t) => t
  | _ => 0
def tok_SMALL_LETTERS (mg : Str → Option Value) : Tok := match mg "SMALL_LETTERS" with
  | some (.str _ t) => t
  | _ => 0
def tok_UNDECIDED (mg : Str → Option Value) : Tok := match mg "UNDECIDED" with
  | some (.str _ t) => t
  | _ => 0
structure Zs where
  SayError : Addr
  NoShape : Addr
  NoSaying : Addr
  NoText : Addr
  FIELD_MARKS : Addr
  FIELD_WORDS : Addr
  JOINTS : Addr
  LENGTHS : Addr
  NO_NAMES : Addr
  OPENINGS : Addr
  SINGLE_WORDS : Addr
  TEST_WORDS : Addr
  c_is_name : Addr
  t_is_name : Addr
structure Txt (K : PySem.W.Frag) (mg : Str → Option Value) (Z : Zs) (w : World) (P : Program) : Prop where
  hk : TbS.hk = keyH w
  sn : TbS.sn = DNw P w
  b_all : mg "all" = none
  b_bool : mg "bool" = none
  b_int : mg "int" = none
  b_isinstance : mg "isinstance" = none
  b_len : mg "len" = none
  b_min : mg "min" = none
  b_range : mg "range" = none
  b_repr : mg "repr" = none
  b_str : mg "str" = none
  b_tuple : mg "tuple" = none
  k_FIELD_MARKS : mg "FIELD_MARKS" = some (.ref Z.FIELD_MARKS)
  r_FIELD_MARKS : KTabS K w Z.FIELD_MARKS t_FIELD_MARKS
  k_FIELD_SIGNS : mg "FIELD_SIGNS" = some (.str "abc" (tok_FIELD_SIGNS mg))
  k_FIELD_WORDS : mg "FIELD_WORDS" = some (.ref Z.FIELD_WORDS)
  r_FIELD_WORDS : ∀ G, Rp K G (.tup (t_FIELD_WORDS.map D.str)) (.ref Z.FIELD_WORDS)
  k_FIGURES : mg "FIGURES" = some (.str "0123456789" (tok_FIGURES mg))
  k_JOINTS : mg "JOINTS" = some (.ref Z.JOINTS)
  r_JOINTS : KTabS K w Z.JOINTS t_JOINTS
  k_LENGTHS : mg "LENGTHS" = some (.ref Z.LENGTHS)
  r_LENGTHS : KTab K w Z.LENGTHS (tabV t_LENGTHS)
  k_LONGEST_NAME : mg "LONGEST_NAME" = some (.int (8) (tok_LONGEST_NAME mg))
  k_MOST_FIELDS : mg "MOST_FIELDS" = some (.int (3) (tok_MOST_FIELDS mg))
  k_MOST_LETTERS : mg "MOST_LETTERS" = some (.int (27) (tok_MOST_LETTERS mg))
  k_MOST_NOTES : mg "MOST_NOTES" = some (.int (5) (tok_MOST_NOTES mg))
  k_MOST_OPEN : mg "MOST_OPEN" = some (.int (40) (tok_MOST_OPEN mg))
  k_MOST_VALUES : mg "MOST_VALUES" = some (.int (4) (tok_MOST_VALUES mg))
  k_NO_NAMES : mg "NO_NAMES" = some (.ref Z.NO_NAMES)
  r_NO_NAMES : ∀ G, Rp K G (.tup (t_NO_NAMES.map D.str)) (.ref Z.NO_NAMES)
  k_OPENINGS : mg "OPENINGS" = some (.ref Z.OPENINGS)
  r_OPENINGS : KTabS K w Z.OPENINGS t_OPENINGS
  k_SHORTEST_NAME : mg "SHORTEST_NAME" = some (.int (2) (tok_SHORTEST_NAME mg))
  k_SINGLE_WORDS : mg "SINGLE_WORDS" = some (.ref Z.SINGLE_WORDS)
  r_SINGLE_WORDS : ∀ G, Rp K G (.tup (t_SINGLE_WORDS.map D.str)) (.ref Z.SINGLE_WORDS)
  k_SMALL_LETTERS : mg "SMALL_LETTERS" = some (.str "abcdefghijklmnopqrstuvwxyz" (tok_SMALL_LETTERS mg))
  k_TEST_WORDS : mg "TEST_WORDS" = some (.ref Z.TEST_WORDS)
  r_TEST_WORDS : ∀ G, Rp K G (.tup (t_TEST_WORDS.map D.str)) (.ref Z.TEST_WORDS)
  k_UNDECIDED : mg "UNDECIDED" = some (.str "(" (tok_UNDECIDED mg))
  c_SayError : mg "SayError" = some (.ref Z.SayError)
  c_NoShape : mg "NoShape" = some (.ref Z.NoShape)
  c_NoSaying : mg "NoSaying" = some (.ref Z.NoSaying)
  c_NoText : mg "NoText" = some (.ref Z.NoText)
  x_NoSaying : PySem.W.excIn K Z.NoSaying [.type "ValueError", .type "Exception", .type "BaseException", .type "object"] "ValueError.__new__" = true
  p_NoSaying : PySem.W.keepIn K (.ref Z.NoSaying) = true
  u_NoSaying : PySem.W.subIn K (.ref Z.NoSaying) (.type "BaseException") = some true
  t_NoSaying : PySem.W.typeIn K (.ref Z.NoSaying) = some (.type "type")
  x_NoShape : PySem.W.excIn K Z.NoShape [.type "ValueError", .type "Exception", .type "BaseException", .type "object"] "ValueError.__new__" = true
  p_NoShape : PySem.W.keepIn K (.ref Z.NoShape) = true
  u_NoShape : PySem.W.subIn K (.ref Z.NoShape) (.type "BaseException") = some true
  t_NoShape : PySem.W.typeIn K (.ref Z.NoShape) = some (.type "type")
  x_NoText : PySem.W.excIn K Z.NoText [.type "ValueError", .type "Exception", .type "BaseException", .type "object"] "ValueError.__new__" = true
  p_NoText : PySem.W.keepIn K (.ref Z.NoText) = true
  u_NoText : PySem.W.subIn K (.ref Z.NoText) (.type "BaseException") = some true
  t_NoText : PySem.W.typeIn K (.ref Z.NoText) = some (.type "type")
/-! ### is_number -/
abbrev s_is_number : Stmt := topS 6
abbrev N_is_number : List Str := ["thing"]
theorem sc_is_number : FnScope N_is_number ["thing"] (defScope s_is_number) := ⟨rfl, rfl, rfl, by decide +kernel, rfl, by decide +kernel, by decide +kernel⟩
def b_is_number : SD :=
  (dRet (xLift (dBool (dAnd (dBl (dSh (dIsi .int (dSh (dVar 0))))) (dBl (dSh (dBool (dNot (dBl (dSh (dIsi .bool (dSh (dVar 0)))))))))))))
def fn_is_number : FnT := fnD 1 1 [true] (b_is_number)
/-! ### is_below -/
abbrev s_is_below : Stmt := topS 7
abbrev N_is_below : List Str := ["thing", "most"]
theorem sc_is_below : FnScope N_is_below ["thing", "most"] (defScope s_is_below) := ⟨rfl, rfl, rfl, by decide +kernel, rfl, by decide +kernel, by decide +kernel⟩
def b_is_below : SD :=
  (dRet (xLift (dBool (dAnd (dBl (dSh (dCall fn_is_number (daCons (dVar 0) daNil)))) (dBl (dSh (dChain gLe gLt (dSh (dC (.int 0))) (dSh (dVar 0)) (dSh (dVar 1)))))))))
def fn_is_below : FnT := fnD 2 2 [true, true] (b_is_below)
/-! ### is_shape -/
abbrev s_is_shape : Stmt := topS 12
abbrev N_is_shape : List Str := ["thing", "many", "values"]
theorem sc_is_shape : FnScope N_is_shape ["thing"] (defScope s_is_shape) := ⟨rfl, rfl, rfl, by decide +kernel, rfl, by decide +kernel, by decide +kernel⟩
@[reducible] def L_is_shape_1 : SD :=
  (dSeq (dIf (xbLift (dOr (dNot (dBl (dSh (dCall fn_is_number (daCons (dVar 2) daNil))))) (dNot (dBl (dSh (dChain gLe gLe (dSh (dC (.int 1))) (dSh (dVar 2)) (dSh (dC (.int (4)))))))))) (dRet (xLift (dC (.bl false)))) dNext)
    (dAug 1 gMul1 (dSh (dVar 2))))
def b_is_shape : SD :=
  (dSeq (dIf (xbLift (dOr (dNot (dBl (dSh (dIsi .tuple (dSh (dVar 0)))))) (dNot (dBl (dSh (dChain gLe gLe (dSh (dC (.int 1))) (dSh (dWith (fdCons (dSh (dVar 0)) fdNil) gLen)) (dSh (dC (.int (3)))))))))) (dRet (xLift (dC (.bl false)))) dNext)
    (dSeq (dAsg (xLift (dC (.int 1))) (gdName 1))
    (dSeq (dFor (dItemsT (dSh (dVar 0))) (gdName 2) L_is_shape_1)
    (dRet (xLift (dOp gLe (dSh (dVar 1)) (dSh (dC (.int (27))))))))))
def fn_is_shape : FnT := fnD 1 3 [true] (b_is_shape)
/-! ### check_shape -/
abbrev s_check_shape : Stmt := topS 13
abbrev N_check_shape : List Str := ["shape"]
theorem sc_check_shape : FnScope N_check_shape ["shape"] (defScope s_check_shape) := ⟨rfl, rfl, rfl, by decide +kernel, rfl, by decide +kernel, by decide +kernel⟩
def b_check_shape (Z : Zs) : SD :=
  (dIf (xbLift (dNot (dBl (dSh (dCall fn_is_shape (daCons (dVar 0) daNil)))))) (dRaise Z.NoShape) dNext)
def fn_check_shape (Z : Zs) : FnT := fnD 1 1 [true] (b_check_shape Z)
/-! ### is_name -/
abbrev s_is_name : Stmt := topS 27
abbrev N_is_name : List Str := ["word", "sign"]
theorem sc_is_name : FnScope N_is_name ["word"] (defScope s_is_name) := ⟨rfl, rfl, rfl, by decide +kernel, rfl, by decide +kernel, by decide +kernel⟩
@[reducible] def g_is_name_1 : FD :=
  (dSh (dOp (gSign false) (dSh (dVar 1)) (dSh (dC (.str "abcdefghijklmnopqrstuvwxyz")))))
def b_is_name : SD :=
  (dSeq (dIf (xbLift (dOr (dNot (dBl (dSh (dChain gLe gLe (dSh (dC (.int (2)))) (dSh (dWith (fdCons (dSh (dVar 0)) fdNil) gLen)) (dSh (dC (.int (8)))))))) (dBl (dSh (dOp (gIn false) (dSh (dVar 0)) (dSh (dC (.tup (t_NO_NAMES.map D.str))))))))) (dRet (xLift (dC (.bl false)))) dNext)
    (dRet (xLift (dAllG (dItemsL (dSh (dVar 0))) (gdName 1) g_is_name_1 [1]))))
def fn_is_name : FnT := fnD 1 2 [true] (b_is_name)
/-! ### is_field_word -/
abbrev s_is_field_word : Stmt := topS 28
abbrev N_is_field_word : List Str := ["word"]
theorem sc_is_field_word : FnScope N_is_field_word ["word"] (defScope s_is_field_word) := ⟨rfl, rfl, rfl, by decide +kernel, rfl, by decide +kernel, by decide +kernel⟩
def b_is_field_word : SD :=
  (dRet (xLift (dBool (dAnd (dBl (dSh (dOp gEq (dSh (dWith (fdCons (dSh (dVar 0)) fdNil) gLen)) (dSh (dC (.int 3)))))) (dBl (dSh (dBool (dAnd (dBl (dSh (dOp (gSign false) (dSh (dOp gIxS (dSh (dVar 0)) (dSh (dC (.int 0))))) (dSh (dC (.str "abc")))))) (dBl (dSh (dBool (dAnd (dBl (dSh (dKIn t_FIELD_MARKS false (dSh (dOp gIxS (dSh (dVar 0)) (dSh (dC (.int 1)))))))) (dBl (dSh (dOp (gSign false) (dSh (dOp gIxS (dSh (dVar 0)) (dSh (dC (.int 2))))) (dSh (dC (.str "0123456789"))))))))))))))))))
def fn_is_field_word : FnT := fnD 1 1 [true] (b_is_field_word)
/-! ### words_in -/
abbrev s_words_in : Stmt := topS 29
abbrev N_words_in : List Str := ["text", "apart", "sign", "word"]
theorem sc_words_in : FnScope N_words_in ["text"] (defScope s_words_in) := ⟨rfl, rfl, rfl, by decide +kernel, rfl, by decide +kernel, by decide +kernel⟩
@[reducible] def c_words_in_1 (Z : Zs) : MD :=
  (dMv (dVar 3))
@[reducible] def ct_words_in_1 (Z : Zs) : BD :=
  (dTru (dSh (dVar 3)))
def b_words_in (Z : Zs) : SD :=
  (dApart 0 1 2 32 "(" "( " " " " " [")", ";", "|"] Z.NoText
    (dRet (xLift (dComp (dItemsL (dSh (dM1 gSplit (dSh (dVar 1)) (dSh (dC (.str " ")))))) (gdName 3) (ct_words_in_1 Z) (c_words_in_1 Z) [3]))))
def fn_words_in (Z : Zs) : FnT := fnD 1 4 [true] (b_words_in Z)
omit [TbS] in
theorem fe_words_in (Z : Zs) {p0 : T} {o : O} {z : Res × List T} (e : b_words_in Z [p0, .un, .un, .un] = some o) (h : EV.finO 1 [true] [p0] o = some z) : fn_words_in Z [p0] = some z := EV.fnO (by rfl) e h
/-! ### plain_part -/
abbrev s_plain_part : Stmt := topS 30
abbrev N_plain_part : List Str := ["word", "with_names"]
theorem sc_plain_part : FnScope N_plain_part ["word", "with_names"] (defScope s_plain_part) := ⟨rfl, rfl, rfl, by decide +kernel, rfl, by decide +kernel, by decide +kernel⟩
def b_plain_part (Z : Zs) : SD :=
  (dSeq (dIf (xbLift (dBl (dSh (dOp (gIn false) (dSh (dVar 0)) (dSh (dC (.tup (t_SINGLE_WORDS.map D.str)))))))) (dRet (xLift (dWith (fdCons (dSh (dVar 0)) fdNil) gTupD))) dNext)
    (dSeq (dIf (xbLift (dBl (dSh (dCall fn_is_field_word (daCons (dVar 0) daNil))))) (dRet (xLift (dWith (fdCons (dSh (dKIx t_FIELD_MARKS (dSh (dOp gIxS (dSh (dVar 0)) (dSh (dC (.int 1))))))) (fdCons (dSh (dM1 gSIndex (dSh (dC (.str "abc"))) (dSh (dOp gIxS (dSh (dVar 0)) (dSh (dC (.int 0))))))) (fdCons (dSh (dWith (fdCons (dSh (dOp gIxS (dSh (dVar 0)) (dSh (dC (.int 2))))) fdNil) gIntS)) fdNil))) gTupD))) dNext)
    (dSeq (dIf (xbLift (dAnd (dTru (dSh (dVar 1))) (dBl (dSh (dCall fn_is_name (daCons (dVar 0) daNil)))))) (dRet (xLift (dWith (fdCons (dSh (dC (.str "name"))) (fdCons (dSh (dVar 0)) fdNil)) gTupD))) dNext)
    (dRaise Z.NoText))))
def fn_plain_part (Z : Zs) : FnT := fnD 2 2 [true, true] (b_plain_part Z)
/-! ### open_bracket -/
abbrev s_open_bracket : Stmt := topS 31
abbrev N_open_bracket : List Str := ["opened", "kind"]
theorem sc_open_bracket : FnScope N_open_bracket ["opened", "kind"] (defScope s_open_bracket) := ⟨rfl, rfl, rfl, by decide +kernel, rfl, by decide +kernel, by decide +kernel⟩
def b_open_bracket (Z : Zs) : SD :=
  (dSeq (dDrop (xLift (dAppend 0 (dMv (dVar 1)))))
    (dIf (xbLift (dScalT (dBl (dSh (dOp gGt (dSh (dLift (dScal (dSh (dWith (fdCons (dSh (dVar 0)) fdNil) gLen))))) (dSh (dC (.int (40))))))))) (dRaise Z.NoText) dNext))
def fn_open_bracket (Z : Zs) : FnT := fnD 2 2 [true, true] (b_open_bracket Z)
omit [TbS] in
theorem fe_open_bracket (Z : Zs) {p0 p1 : T} {o : O} {z : Res × List T} (e : b_open_bracket Z [p0, p1] = some o) (h : EV.finO 2 [true, true] [p0, p1] o = some z) : fn_open_bracket Z [p0, p1] = some z := EV.fnO (by rfl) e h
/-! ### join_bracket -/
abbrev s_join_bracket : Stmt := topS 32
abbrev N_join_bracket : List Str := ["opened", "kind"]
theorem sc_join_bracket : FnScope N_join_bracket ["opened", "kind"] (defScope s_join_bracket) := ⟨rfl, rfl, rfl, by decide +kernel, rfl, by decide +kernel, by decide +kernel⟩
def b_join_bracket (Z : Zs) : SD :=
  (dSeq (dIf (xbLift (dScalT (dOr (dNot (dTru (dSh (dVar 0)))) (dBl (dSh (dOp gNe (dSh (dOp gIx (dSh (dVar 0)) (dSh (dUn gNeg (dSh (dC (.int 1))))))) (dSh (dC (.str "("))))))))) (dRaise Z.NoText) dNext)
    (dAsg (xLift (dVar 1)) (gdIx 0 (dSh (dUn gNeg (dSh (dC (.int 1))))))))
def fn_join_bracket (Z : Zs) : FnT := fnD 2 2 [true, true] (b_join_bracket Z)
omit [TbS] in
theorem fe_join_bracket (Z : Zs) {p0 p1 : T} {o : O} {z : Res × List T} (e : b_join_bracket Z [p0, p1] = some o) (h : EV.finO 2 [true, true] [p0, p1] o = some z) : fn_join_bracket Z [p0, p1] = some z := EV.fnO (by rfl) e h
/-! ### close_bracket -/
abbrev s_close_bracket : Stmt := topS 33
abbrev N_close_bracket : List Str := ["opened"]
theorem sc_close_bracket : FnScope N_close_bracket ["opened"] (defScope s_close_bracket) := ⟨rfl, rfl, rfl, by decide +kernel, rfl, by decide +kernel, by decide +kernel⟩
def b_close_bracket (Z : Zs) : SD :=
  (dSeq (dIf (xbLift (dScalT (dOr (dNot (dTru (dSh (dVar 0)))) (dBl (dSh (dOp gEq (dSh (dOp gIx (dSh (dVar 0)) (dSh (dUn gNeg (dSh (dC (.int 1))))))) (dSh (dC (.str "("))))))))) (dRaise Z.NoText) dNext)
    (dRet (xLift (dPop 0))))
def fn_close_bracket (Z : Zs) : FnT := fnD 1 1 [true] (b_close_bracket Z)
omit [TbS] in
theorem fe_close_bracket (Z : Zs) {p0 : T} {o : O} {z : Res × List T} (e : b_close_bracket Z [p0] = some o) (h : EV.finO 1 [true] [p0] o = some z) : fn_close_bracket Z [p0] = some z := EV.fnO (by rfl) e h
/-! ### parts_in -/
abbrev s_parts_in : Stmt := topS 34
abbrev N_parts_in : List Str := ["text", "with_names", "parts", "opened", "due", "word"]
theorem sc_parts_in : FnScope N_parts_in ["text", "with_names"] (defScope s_parts_in) := ⟨rfl, rfl, rfl, by decide +kernel, rfl, by decide +kernel, by decide +kernel⟩
@[reducible] def L_parts_in_1 (Z : Zs) : SD :=
  (dIf (xbLift (dAnd (dTru (dSh (dVar 4))) (dBl (dSh (dKIn t_OPENINGS false (dSh (dVar 5))))))) (dDrop (dCallX (fn_open_bracket Z) (daCons (dVar 3) (daCons (dKIx t_OPENINGS (dSh (dVar 5))) daNil)))) (dIf (xbLift (dTru (dSh (dVar 4)))) (dSeq (dDrop (xLift (dAppend 2 (dMv (dCall (fn_plain_part Z) (daCons (dVar 5) (daCons (dVar 1) daNil)))))))
    (dAsg (xLift (dC (.bl false))) (gdName 4))) (dIf (xbLift (dBl (dSh (dKIn t_JOINTS false (dSh (dVar 5)))))) (dSeq (dDrop (dCallX (fn_join_bracket Z) (daCons (dVar 3) (daCons (dKIx t_JOINTS (dSh (dVar 5))) daNil))))
    (dAsg (xLift (dC (.bl true))) (gdName 4))) (dIf (xbLift (dBl (dSh (dOp gEq (dSh (dVar 5)) (dSh (dC (.str ")"))))))) (dDrop (xLift (dAppend 2 (dMv (dWith (fdCons (dSh (dCall (fn_close_bracket Z) (daCons (dVar 3) daNil))) fdNil) gTupD))))) (dRaise Z.NoText)))))
def b_parts_in (Z : Zs) : SD :=
  (dSeq (dAsg (xLift (dWith fdNil gLstD)) (gdName 2))
    (dSeq (dAsg (xLift (dWith fdNil gLstD)) (gdName 3))
    (dSeq (dAsg (xLift (dC (.bl true))) (gdName 4))
    (dSeq (dFor (dItemsL (dSh (dCall (fn_words_in Z) (daCons (dVar 0) daNil)))) (gdName 5) (L_parts_in_1 Z))
    (dSeq (dIf (xbLift (dScalT (dOr (dTru (dSh (dVar 4))) (dTru (dSh (dVar 3)))))) (dRaise Z.NoText) dNext)
    (dRet (xLift (dVar 2))))))))
def fn_parts_in (Z : Zs) : FnT := fnD 2 6 [true, true] (b_parts_in Z)
omit [TbS] in
theorem fe_parts_in (Z : Zs) {p0 p1 : T} {o : O} {z : Res × List T} (e : b_parts_in Z [p0, p1, .un, .un, .un, .un] = some o) (h : EV.finO 2 [true, true] [p0, p1] o = some z) : fn_parts_in Z [p0, p1] = some z := EV.fnO (by rfl) e h
/-! ### saying_from -/
abbrev s_saying_from : Stmt := topS 35
abbrev N_saying_from : List Str := ["parts", "names", "made", "part", "word", "other"]
theorem sc_saying_from : FnScope N_saying_from ["parts", "names"] (defScope s_saying_from) := ⟨rfl, rfl, rfl, by decide +kernel, rfl, by decide +kernel, by decide +kernel⟩
@[reducible] def L_saying_from_1 : SD :=
  (dSeq (dAsg (xLift (dOp gIx (dSh (dVar 3)) (dSh (dC (.int 0))))) (gdName 4))
    (dIf (xbLift (dBl (dSh (dOp gEq (dSh (dVar 4)) (dSh (dC (.str "name"))))))) (dDrop (xLift (dAppend 2 (dMv (dOp gIx (dSh (dVar 1)) (dSh (dOp gIx (dSh (dVar 3)) (dSh (dC (.int 1)))))))))) (dIf (xbLift (dBl (dSh (dOp (gIn false) (dSh (dVar 4)) (dSh (dWith (fdCons (dSh (dC (.str "not"))) (fdCons (dSh (dC (.str "again"))) fdNil)) gTupD)))))) (dDrop (xLift (dAppend 2 (dMv (dWith (fdCons (dSh (dVar 4)) (fdCons (dSh (dPop 2)) fdNil)) gTupD))))) (dIf (xbLift (dBl (dSh (dOp (gIn false) (dSh (dVar 4)) (dSh (dWith (fdCons (dSh (dC (.str "then"))) (fdCons (dSh (dC (.str "either"))) fdNil)) gTupD)))))) (dSeq (dAsg (xLift (dPop 2)) (gdName 5))
    (dDrop (xLift (dAppend 2 (dMv (dWith (fdCons (dSh (dVar 4)) (fdCons (dSh (dPop 2)) (fdCons (dSh (dVar 5)) fdNil))) gTupD)))))) (dDrop (xLift (dAppend 2 (dMv (dVar 3)))))))))
def b_saying_from : SD :=
  (dSeq (dAsg (xLift (dWith fdNil gLstD)) (gdName 2))
    (dSeq (dFor (dItemsL (dSh (dVar 0))) (gdName 3) L_saying_from_1)
    (dRet (xLift (dPop 2)))))
def fn_saying_from : FnT := fnD 2 6 [true, true] (b_saying_from)
omit [TbS] in
theorem fe_saying_from {p0 p1 : T} {o : O} {z : Res × List T} (e : b_saying_from [p0, p1, .un, .un, .un, .un] = some o) (h : EV.finO 2 [true, true] [p0, p1] o = some z) : fn_saying_from [p0, p1] = some z := EV.fnO (by rfl) e h
/-! ### has_part_form -/
abbrev s_has_part_form : Stmt := topS 41
abbrev N_has_part_form : List Str := ["shape", "thing", "word"]
theorem sc_has_part_form : FnScope N_has_part_form ["shape", "thing"] (defScope s_has_part_form) := ⟨rfl, rfl, rfl, by decide +kernel, rfl, by decide +kernel, by decide +kernel⟩
def b_has_part_form : SD :=
  (dSeq (dIf (xbLift (dOr (dNot (dBl (dSh (dIsi .tuple (dSh (dVar 1)))))) (dBl (dSh (dOp gEq (dSh (dWith (fdCons (dSh (dVar 1)) fdNil) gLen)) (dSh (dC (.int 0)))))))) (dRet (xLift (dC (.bl false)))) dNext)
    (dSeq (dAsg (xLift (dOp gIx (dSh (dVar 1)) (dSh (dC (.int 0))))) (gdName 2))
    (dSeq (dIf (xbLift (dOr (dNot (dBl (dSh (dIsi .str (dSh (dVar 2)))))) (dBl (dSh (dOp gNe (dSh (dUn (gKGet (tabD t_LENGTHS)) (dSh (dVar 2)))) (dSh (dWith (fdCons (dSh (dVar 1)) fdNil) gLen))))))) (dRet (xLift (dC (.bl false)))) dNext)
    (dSeq (dIf (xbLift (dBl (dSh (dOp (gIn false) (dSh (dVar 2)) (dSh (dC (.tup (t_FIELD_WORDS.map D.str)))))))) (dRet (xLift (dBool (dAnd (dBl (dSh (dCall fn_is_below (daCons (dOp gIx (dSh (dVar 1)) (dSh (dC (.int 1)))) (daCons (dWith (fdCons (dSh (dVar 0)) fdNil) gLen) daNil))))) (dBl (dSh (dCall fn_is_below (daCons (dOp gIx (dSh (dVar 1)) (dSh (dC (.int 2)))) (daCons (dOp gIx (dSh (dVar 0)) (dSh (dOp gIx (dSh (dVar 1)) (dSh (dC (.int 1)))))) daNil))))))))) dNext)
    (dRet (xLift (dC (.bl true))))))))
def fn_has_part_form : FnT := fnD 2 3 [true, true] (b_has_part_form)
/-! ### inner_parts -/
abbrev s_inner_parts : Stmt := topS 42
abbrev N_inner_parts : List Str := ["part"]
theorem sc_inner_parts : FnScope N_inner_parts ["part"] (defScope s_inner_parts) := ⟨rfl, rfl, rfl, by decide +kernel, rfl, by decide +kernel, by decide +kernel⟩
def b_inner_parts : SD :=
  (dRet (xLift (dIfE (dBl (dSh (dOp (gIn false) (dSh (dOp gIx (dSh (dVar 0)) (dSh (dC (.int 0))))) (dSh (dC (.tup (t_FIELD_WORDS.map D.str))))))) (dWith fdNil gTupD) (dSl gSlT (dSh (dVar 0)) (pAt (dSh (dC (.int 1)))) pNo))))
def fn_inner_parts : FnT := fnD 1 1 [true] (b_inner_parts)
/-! ### is_made_well -/
abbrev s_is_made_well : Stmt := topS 43
abbrev N_is_made_well : List Str := ["shape", "thing", "as_test", "notes", "waiting", "part", "in_test", "word", "inner"]
theorem sc_is_made_well : FnScope N_is_made_well ["shape", "thing", "as_test"] (defScope s_is_made_well) := ⟨rfl, rfl, rfl, by decide +kernel, rfl, by decide +kernel, by decide +kernel⟩
def fuel_is_made_well_1 : Q.Env → Nat := sizeAt 4
@[reducible] def L_is_made_well_2 : SD :=
  (dDrop (xLift (dAppend 4 (dMv (dWith (fdCons (dSh (dVar 8)) (fdCons (dSh (dBool (dOr (dBl (dSh (dVar 6))) (dBl (dSh (dOp gEq (dSh (dVar 7)) (dSh (dC (.str "not"))))))))) fdNil)) gTupD)))))
@[reducible] def Wt_is_made_well_1 : XB :=
  (xbLift (dScalT (dTru (dSh (dVar 4)))))
@[reducible] def W_is_made_well_1 : SD :=
  (dSeq (dAsg (xLift (dPop 4)) (gdTup 2 (gdCons (gdName 5) (gdCons (gdName 6) gdNil))))
    (dSeq (dIf (xbLift (dNot (dBl (dSh (dCall fn_has_part_form (daCons (dVar 0) (daCons (dVar 5) daNil))))))) (dRet (xLift (dC (.bl false)))) dNext)
    (dSeq (dAsg (xLift (dOp gIx (dSh (dVar 5)) (dSh (dC (.int 0))))) (gdName 7))
    (dSeq (dIf (xbLift (dAnd (dTru (dSh (dVar 6))) (dBl (dSh (dOp (gIn true) (dSh (dVar 7)) (dSh (dC (.tup (t_TEST_WORDS.map D.str))))))))) (dRet (xLift (dC (.bl false)))) dNext)
    (dSeq (dIf (xbLift (dBl (dSh (dOp gEq (dSh (dVar 7)) (dSh (dC (.str "note"))))))) (dAug 3 gAdd (dSh (dC (.int 1)))) dNext)
    (dSeq (dIf (xbLift (dBl (dSh (dOp gGt (dSh (dVar 3)) (dSh (dC (.int (5)))))))) (dRet (xLift (dC (.bl false)))) dNext)
    (dFor (dItemsT (dSh (dCall fn_inner_parts (daCons (dVar 5) daNil)))) (gdName 8) L_is_made_well_2)))))))
def b_is_made_well : SD :=
  (dSeq (dAsg (xLift (dC (.int 0))) (gdName 3))
    (dSeq (dAsg (xLift (dWith (fdCons (dSh (dWith (fdCons (dSh (dVar 1)) (fdCons (dSh (dVar 2)) fdNil)) gTupD)) fdNil) gLstD)) (gdName 4))
    (dSeq (dWhile fuel_is_made_well_1 Wt_is_made_well_1 W_is_made_well_1)
    (dRet (xLift (dC (.bl true)))))))
def fn_is_made_well : FnT := fnD 3 9 [true, true, true] (b_is_made_well)
/-! ### is_saying -/
abbrev s_is_saying : Stmt := topS 44
abbrev N_is_saying : List Str := ["shape", "thing"]
theorem sc_is_saying : FnScope N_is_saying ["shape", "thing"] (defScope s_is_saying) := ⟨rfl, rfl, rfl, by decide +kernel, rfl, by decide +kernel, by decide +kernel⟩
def b_is_saying (Z : Zs) : SD :=
  (dSeq (dDrop (dCallX (fn_check_shape Z) (daCons (dVar 0) daNil)))
    (dRet (xLift (dCall fn_is_made_well (daCons (dVar 0) (daCons (dVar 1) (daCons (dC (.bl false)) daNil)))))))
def fn_is_saying (Z : Zs) : FnT := fnD 2 2 [true, true] (b_is_saying Z)
/-! ### check_saying -/
abbrev s_check_saying : Stmt := topS 45
abbrev N_check_saying : List Str := ["shape", "saying"]
theorem sc_check_saying : FnScope N_check_saying ["shape", "saying"] (defScope s_check_saying) := ⟨rfl, rfl, rfl, by decide +kernel, rfl, by decide +kernel, by decide +kernel⟩
def b_check_saying (Z : Zs) : SD :=
  (dIf (xNot (xBl (dCallX (fn_is_saying Z) (daCons (dVar 0) (daCons (dVar 1) daNil))))) (dRaise Z.NoSaying) dNext)
def fn_check_saying (Z : Zs) : FnT := fnD 2 2 [true, true] (b_check_saying Z)
/-! ### pieces_of -/
abbrev s_pieces_of : Stmt := topS 47
abbrev N_pieces_of : List Str := ["part", "word"]
theorem sc_pieces_of : FnScope N_pieces_of ["part"] (defScope s_pieces_of) := ⟨rfl, rfl, rfl, by decide +kernel, rfl, by decide +kernel, by decide +kernel⟩
def b_pieces_of : SD :=
  (dSeq (dAsg (xLift (dOp gIx (dSh (dVar 0)) (dSh (dC (.int 0))))) (gdName 1))
    (dSeq (dIf (xbLift (dBl (dSh (dOp gEq (dSh (dVar 1)) (dSh (dC (.str "is"))))))) (dRet (xLift (dWith (fdCons (dSh (dFs [sF (dSh (dOp gIxS (dSh (dC (.str "abc"))) (dSh (dOp gIx (dSh (dVar 0)) (dSh (dC (.int 1))))))), sC "=", sF (dSh (dOp gIx (dSh (dVar 0)) (dSh (dC (.int 2)))))])) fdNil) gLstD))) dNext)
    (dSeq (dIf (xbLift (dBl (dSh (dOp gEq (dSh (dVar 1)) (dSh (dC (.str "put"))))))) (dRet (xLift (dWith (fdCons (dSh (dFs [sF (dSh (dOp gIxS (dSh (dC (.str "abc"))) (dSh (dOp gIx (dSh (dVar 0)) (dSh (dC (.int 1))))))), sC ":", sF (dSh (dOp gIx (dSh (dVar 0)) (dSh (dC (.int 2)))))])) fdNil) gLstD))) dNext)
    (dSeq (dIf (xbLift (dBl (dSh (dOp gEq (dSh (dVar 1)) (dSh (dC (.str "then"))))))) (dRet (xLift (dWith (fdCons (dSh (dC (.str "("))) (fdCons (dSh (dOp gIx (dSh (dVar 0)) (dSh (dC (.int 1))))) (fdCons (dSh (dC (.str ";"))) (fdCons (dSh (dOp gIx (dSh (dVar 0)) (dSh (dC (.int 2))))) (fdCons (dSh (dC (.str ")"))) fdNil))))) gLstD))) dNext)
    (dSeq (dIf (xbLift (dBl (dSh (dOp gEq (dSh (dVar 1)) (dSh (dC (.str "either"))))))) (dRet (xLift (dWith (fdCons (dSh (dC (.str "("))) (fdCons (dSh (dOp gIx (dSh (dVar 0)) (dSh (dC (.int 1))))) (fdCons (dSh (dC (.str "|"))) (fdCons (dSh (dOp gIx (dSh (dVar 0)) (dSh (dC (.int 2))))) (fdCons (dSh (dC (.str ")"))) fdNil))))) gLstD))) dNext)
    (dSeq (dIf (xbLift (dBl (dSh (dOp (gIn false) (dSh (dVar 1)) (dSh (dWith (fdCons (dSh (dC (.str "not"))) (fdCons (dSh (dC (.str "again"))) fdNil)) gTupD)))))) (dRet (xLift (dLstO (mdCons (dMv (dMove 1)) (mdCons (dMv (dC (.str "("))) (mdCons (dMv (dOp gIx (dSh (dVar 0)) (dSh (dC (.int 1))))) (mdCons (dMv (dC (.str ")"))) mdNil))))))) dNext)
    (dRet (xLift (dLstO (mdCons (dMv (dMove 1)) mdNil))))))))))
def fn_pieces_of : FnT := fnD 1 2 [true] (b_pieces_of)
/-! ### shown_saying -/
abbrev s_shown_saying : Stmt := topS 48
abbrev N_shown_saying : List Str := ["shape", "saying", "written", "waiting", "piece"]
theorem sc_shown_saying : FnScope N_shown_saying ["shape", "saying"] (defScope s_shown_saying) := ⟨rfl, rfl, rfl, by decide +kernel, rfl, by decide +kernel, by decide +kernel⟩
def fuel_shown_saying_1 : Q.Env → Nat := fun _ => 4000
@[reducible] def Wt_shown_saying_1 (Z : Zs) : XB :=
  (xbLift (dScalT (dTru (dSh (dVar 3)))))
@[reducible] def W_shown_saying_1 (Z : Zs) : SD :=
  (dSeq (dAsg (xLift (dPop 3)) (gdName 4))
    (dIf (xbLift (dBl (dSh (dIsi .str (dSh (dVar 4)))))) (dDrop (xLift (dAppend 2 (dMv (dVar 4))))) (dDrop (xLift (dExtendL 3 (dMv (dUn gRevL (dSh (dCall fn_pieces_of (daCons (dVar 4) daNil))))))))))
def b_shown_saying (Z : Zs) : SD :=
  (dSeq (dDrop (dCallX (fn_check_saying Z) (daCons (dVar 0) (daCons (dVar 1) daNil))))
    (dSeq (dAsg (xLift (dWith fdNil gLstD)) (gdName 2))
    (dSeq (dAsg (xLift (dWith (fdCons (dSh (dVar 1)) fdNil) gLstD)) (gdName 3))
    (dSeq (dWhile fuel_shown_saying_1 (Wt_shown_saying_1 Z) (W_shown_saying_1 Z))
    (dRet (xLift (dM1 gJoin (dSh (dC (.str ""))) (dSh (dVar 2)))))))))
def fn_shown_saying (Z : Zs) : FnT := fnD 2 5 [true, true] (b_shown_saying Z)
omit [TbS] in
theorem fe_shown_saying (Z : Zs) {p0 p1 : T} {o : O} {z : Res × List T} (e : b_shown_saying Z [p0, p1, .un, .un, .un] = some o) (h : EV.finO 2 [true, true] [p0, p1] o = some z) : fn_shown_saying Z [p0, p1] = some z := EV.fnO (by rfl) e h
/-! ### read_saying -/
abbrev s_read_saying : Stmt := topS 49
abbrev N_read_saying : List Str := ["shape", "text", "saying"]
theorem sc_read_saying : FnScope N_read_saying ["shape", "text"] (defScope s_read_saying) := ⟨rfl, rfl, rfl, by decide +kernel, rfl, by decide +kernel, by decide +kernel⟩
def b_read_saying (Z : Zs) : SD :=
  (dSeq (dDrop (dCallX (fn_check_shape Z) (daCons (dVar 0) daNil)))
    (dSeq (dIf (xbLift (dNot (dBl (dSh (dIsi .str (dSh (dVar 1))))))) (dRaise Z.NoText) dNext)
    (dSeq (dAsg (xLift (dCall fn_saying_from (daCons (dCall (fn_parts_in Z) (daCons (dVar 1) (daCons (dC (.bl false)) daNil))) (daCons dNewK daNil)))) (gdName 2))
    (dSeq (dIf (xNot (xBl (dCallX (fn_is_saying Z) (daCons (dVar 0) (daCons (dVar 2) daNil))))) (dRaise Z.NoText) dNext)
    (dRet (xLift (dVar 2)))))))
def fn_read_saying (Z : Zs) : FnT := fnD 2 3 [true, true] (b_read_saying Z)
omit [TbS] in
theorem fe_read_saying (Z : Zs) {p0 p1 : T} {o : O} {z : Res × List T} (e : b_read_saying Z [p0, p1, .un] = some o) (h : EV.finO 2 [true, true] [p0, p1] o = some z) : fn_read_saying Z [p0, p1] = some z := EV.fnO (by rfl) e h
/-! ### _law_mixed -/
abbrev s__law_mixed : Stmt := topS 51
abbrev N__law_mixed : List Str := ["_law_cell_here", "_law_k", "_law_number"]
theorem sc__law_mixed : FnScope N__law_mixed ["_law_cell_here", "_law_k"] (defScope s__law_mixed) := ⟨rfl, rfl, rfl, by decide +kernel, rfl, by decide +kernel, by decide +kernel⟩
def b__law_mixed : SD :=
  (dSeq (dAsg (xLift (dOp gMod (dSh (dOp gAdd (dSh (dOp gAdd (dSh (dOp gMul (dSh (dOp gMod (dSh (dVar 0)) (dSh (dC (.int 2147483647))))) (dSh (dC (.int 48271))))) (dSh (dOp gMul (dSh (dVar 1)) (dSh (dC (.int 69621))))))) (dSh (dC (.int 1048583))))) (dSh (dC (.int 2147483629))))) (gdName 2))
    (dSeq (dAsg (xLift (dOp gMod (dSh (dOp gMul (dSh (dVar 2)) (dSh (dVar 2)))) (dSh (dC (.int 2147483587))))) (gdName 2))
    (dRet (xLift (dOp gMod (dSh (dOp gMul (dSh (dVar 2)) (dSh (dOp gAdd (dSh (dVar 2)) (dSh (dC (.int 2))))))) (dSh (dC (.int 2147483579))))))))
def fn__law_mixed : FnT := fnD 2 3 [true, true] (b__law_mixed)
/-! ### _law_cell -/
abbrev s__law_cell : Stmt := topS 52
abbrev N__law_cell : List Str := ["_law_script", "_law_k", "_law_cell_here", "_law_found", "_law_j"]
theorem sc__law_cell : FnScope N__law_cell ["_law_script", "_law_k"] (defScope s__law_cell) := ⟨rfl, rfl, rfl, by decide +kernel, rfl, by decide +kernel, by decide +kernel⟩
@[reducible] def L__law_cell_1 : SD :=
  (dAsg (xLift (dOp gAdd (dSh (dOp gMul (dSh (dVar 3)) (dSh (dC (.int 2147483579))))) (dSh (dCall fn__law_mixed (daCons (dVar 2) (daCons (dOp gAdd (dSh (dOp gAdd (dSh (dOp gMul (dSh (dC (.int 7))) (dSh (dVar 1)))) (dSh (dOp gMul (dSh (dC (.int 100))) (dSh (dVar 4)))))) (dSh (dOp gMul (dSh (dVar 4)) (dSh (dVar 4))))) daNil)))))) (gdName 3))
def b__law_cell : SD :=
  (dSeq (dAsg (xLift (dC (.int 0))) (gdName 2))
    (dSeq (dIf (xbLift (dBl (dSh (dOp gLt (dSh (dVar 1)) (dSh (dWith (fdCons (dSh (dVar 0)) fdNil) gLen)))))) (dAsg (xLift (dOp gIx (dSh (dVar 0)) (dSh (dVar 1)))) (gdName 2)) dNext)
    (dSeq (dIf (xbLift (dBl (dSh (dOp gGe (dSh (dVar 2)) (dSh (dOp gPow (dSh (dC (.int 10))) (dSh (dC (.int 18))))))))) (dRet (xLift (dOp gMod (dSh (dOp gSubI (dSh (dVar 2)) (dSh (dOp gPow (dSh (dC (.int 10))) (dSh (dC (.int 18))))))) (dSh (dOp gMul (dSh (dOp gMul (dSh (dOp gMul (dSh (dOp gPow (dSh (dC (.int 10))) (dSh (dC (.int 60))))) (dSh (dOp gPow (dSh (dC (.int 10))) (dSh (dC (.int 60))))))) (dSh (dOp gPow (dSh (dC (.int 10))) (dSh (dC (.int 60))))))) (dSh (dOp gPow (dSh (dC (.int 10))) (dSh (dC (.int 60)))))))))) dNext)
    (dSeq (dAsg (xLift (dC (.int 0))) (gdName 3))
    (dSeq (dFor (dRange1 (fdCons (dSh (dC (.int 24))) fdNil)) (gdName 4) L__law_cell_1)
    (dRet (xLift (dVar 3))))))))
def fn__law_cell : FnT := fnD 2 5 [true, true] (b__law_cell)
/-! ### _law_take -/
abbrev s__law_take : Stmt := topS 53
abbrev N__law_take : List Str := ["_law_pile", "_law_size", "_law_digit"]
theorem sc__law_take : FnScope N__law_take ["_law_pile", "_law_size"] (defScope s__law_take) := ⟨rfl, rfl, rfl, by decide +kernel, rfl, by decide +kernel, by decide +kernel⟩
def b__law_take : SD :=
  (dSeq (dAsg (xLift (dOp gMod (dSh (dIxO 0 (dSh (dC (.int 0))))) (dSh (dVar 1)))) (gdName 2))
    (dSeq (dAsg (xLift (dOp gDiv (dSh (dIxO 0 (dSh (dC (.int 0))))) (dSh (dVar 1)))) (gdIx 0 (dSh (dC (.int 0)))))
    (dRet (xLift (dVar 2)))))
def fn__law_take : FnT := fnD 2 3 [true, true] (b__law_take)
/-! ### _law_shape -/
abbrev s__law_shape : Stmt := topS 54
abbrev N__law_shape : List Str := ["_law_pile", "_law_some"]
theorem sc__law_shape : FnScope N__law_shape ["_law_pile"] (defScope s__law_shape) := ⟨rfl, rfl, rfl, by decide +kernel, rfl, by decide +kernel, by decide +kernel⟩
def b__law_shape : SD :=
  (dSeq (dAsg (xLift (dWith (fdCons (dSh (dWith (fdCons (dSh (dC (.int 2))) (fdCons (dSh (dC (.int 2))) fdNil)) gTupD)) (fdCons (dSh (dWith (fdCons (dSh (dC (.int 3))) fdNil) gTupD)) (fdCons (dSh (dWith (fdCons (dSh (dC (.int 2))) (fdCons (dSh (dC (.int 3))) fdNil)) gTupD)) (fdCons (dSh (dWith (fdCons (dSh (dC (.int 4))) (fdCons (dSh (dC (.int 2))) fdNil)) gTupD)) (fdCons (dSh (dWith (fdCons (dSh (dC (.int 2))) (fdCons (dSh (dC (.int 2))) (fdCons (dSh (dC (.int 2))) fdNil))) gTupD)) (fdCons (dSh (dWith (fdCons (dSh (dC (.int 3))) (fdCons (dSh (dC (.int 3))) fdNil)) gTupD)) (fdCons (dSh (dWith (fdCons (dSh (dC (.int 1))) (fdCons (dSh (dC (.int 2))) fdNil)) gTupD)) (fdCons (dSh (dWith (fdCons (dSh (dC (.int 4))) (fdCons (dSh (dC (.int 4))) fdNil)) gTupD)) (fdCons (dSh (dWith (fdCons (dSh (dC (.int 3))) (fdCons (dSh (dC (.int 3))) (fdCons (dSh (dC (.int 3))) fdNil))) gTupD)) (fdCons (dSh (dWith (fdCons (dSh (dC (.int 2))) (fdCons (dSh (dC (.int 1))) (fdCons (dSh (dC (.int 3))) fdNil))) gTupD)) (fdCons (dSh (dWith (fdCons (dSh (dC (.int 1))) fdNil) gTupD)) fdNil))))))))))) gLstD)) (gdName 1))
    (dSeq (dAsg (xLift (dOp gCatL (dSh (dVar 1)) (dSh (dWith (fdCons (dSh (dWith (fdCons (dSh (dC (.int 2))) fdNil) gTupD)) (fdCons (dSh (dWith (fdCons (dSh (dC (.int 4))) (fdCons (dSh (dC (.int 3))) (fdCons (dSh (dC (.int 2))) fdNil))) gTupD)) fdNil)) gLstD)))) (gdName 1))
    (dRet (xLift (dOp gIx (dSh (dVar 1)) (dSh (dCall fn__law_take (daCons (dVar 0) (daCons (dC (.int 13)) daNil)))))))))
def fn__law_shape : FnT := fnD 1 2 [true] (b__law_shape)
/-! ### _law_named -/
abbrev s__law_named : Stmt := topS 55
abbrev N__law_named : List Str := ["_law_pile", "_law_word", "_law_shape_here", "_law_field"]
theorem sc__law_named : FnScope N__law_named ["_law_pile", "_law_word", "_law_shape_here"] (defScope s__law_named) := ⟨rfl, rfl, rfl, by decide +kernel, rfl, by decide +kernel, by decide +kernel⟩
def b__law_named : SD :=
  (dSeq (dAsg (xLift (dCall fn__law_take (daCons (dVar 0) (daCons (dWith (fdCons (dSh (dVar 2)) fdNil) gLen) daNil)))) (gdName 3))
    (dRet (xLift (dWith (fdCons (dSh (dVar 1)) (fdCons (dSh (dVar 3)) (fdCons (dSh (dCall fn__law_take (daCons (dVar 0) (daCons (dOp gIx (dSh (dVar 2)) (dSh (dVar 3))) daNil)))) fdNil))) gTupD))))
def fn__law_named : FnT := fnD 3 4 [true, true, true] (b__law_named)
/-! ### _law_test -/
abbrev s__law_test : Stmt := topS 56
abbrev N__law_test : List Str := ["_law_pile", "_law_shape_here", "_law_deep", "_law_way", "_law_one"]
theorem sc__law_test : FnScope N__law_test ["_law_pile", "_law_shape_here", "_law_deep"] (defScope s__law_test) := ⟨rfl, rfl, rfl, by decide +kernel, rfl, by decide +kernel, by decide +kernel⟩
def b__law_test (self : FnT) (kk : Nat) : SD :=
  (dSeq (dAsg (xLift (dCall fn__law_take (daCons (dVar 0) (daCons (dC (.int 9)) daNil)))) (gdName 3))
    (dSeq (dIf (xbLift (dOr (dBl (dSh (dOp gEq (dSh (dVar 2)) (dSh (dC (.int 0)))))) (dBl (dSh (dOp gLt (dSh (dVar 3)) (dSh (dC (.int 4)))))))) (dSeq (dIf (xbLift (dBl (dSh (dOp gEq (dSh (dVar 3)) (dSh (dC (.int 3))))))) (dRet (xLift (dOp gIx (dSh (dWith (fdCons (dSh (dWith (fdCons (dSh (dC (.str "yes"))) fdNil) gTupD)) (fdCons (dSh (dWith (fdCons (dSh (dC (.str "no"))) fdNil) gTupD)) fdNil)) gLstD)) (dSh (dCall fn__law_take (daCons (dVar 0) (daCons (dC (.int 2)) daNil))))))) dNext)
    (dRet (xLift (dCall fn__law_named (daCons (dVar 0) (daCons (dC (.str "is")) (daCons (dVar 1) daNil))))))) dNext)
    (dSeq (dIf (xbLift (dBl (dSh (dOp gLt (dSh (dVar 3)) (dSh (dC (.int 6))))))) (dRet (xLift (dWith (fdCons (dSh (dC (.str "not"))) (fdCons (dSh (dCall self (daCons (dVar 0) (daCons (dVar 1) (daCons (dOp gSubI (dSh (dVar 2)) (dSh (dC (.int 1)))) daNil))))) fdNil)) gTupD))) dNext)
    (dSeq (dAsg (xLift (dCall self (daCons (dVar 0) (daCons (dVar 1) (daCons (dOp gSubI (dSh (dVar 2)) (dSh (dC (.int 1)))) daNil))))) (gdName 4))
    (dRet (xLift (dWith (fdCons (dSh (dOp gIx (dSh (dWith (fdCons (dSh (dC (.str "then"))) (fdCons (dSh (dC (.str "either"))) fdNil)) gLstD)) (dSh (dOp gMod (dSh (dVar 3)) (dSh (dC (.int 2))))))) (fdCons (dSh (dVar 4)) (fdCons (dSh (dCall self (daCons (dVar 0) (daCons (dVar 1) (daCons (dOp gSubI (dSh (dVar 2)) (dSh (dC (.int 1)))) daNil))))) fdNil))) gTupD)))))))
def fn__law_test : Nat → FnT
  | 0 => fun _ => none
  | k + 1 => fnD 3 5 [true, true, true] (b__law_test (fn__law_test k) k)
theorem fl__law_test : ∀ (k : Nat) (qs : List T) (z : Res × List T), fn__law_test k qs = some z → qs.length = 3
  | 0, _, _, e => nomatch e
  | k + 1, qs, z, e => fnD_len qs z e
/-! ### _law_saying -/
abbrev s__law_saying : Stmt := topS 57
abbrev N__law_saying : List Str := ["_law_pile", "_law_shape_here", "_law_deep", "_law_notes", "_law_way", "_law_one"]
theorem sc__law_saying : FnScope N__law_saying ["_law_pile", "_law_shape_here", "_law_deep", "_law_notes"] (defScope s__law_saying) := ⟨rfl, rfl, rfl, by decide +kernel, rfl, by decide +kernel, by decide +kernel⟩
def b__law_saying (self : FnT) (kk : Nat) : SD :=
  (dSeq (dAsg (xLift (dCall fn__law_take (daCons (dVar 0) (daCons (dC (.int 16)) daNil)))) (gdName 4))
    (dSeq (dIf (xbLift (dScalT (dAnd (dBl (dSh (dOp gEq (dSh (dVar 4)) (dSh (dC (.int 0)))))) (dBl (dSh (dOp gGt (dSh (dLift (dScal (dSh (dWith (fdCons (dSh (dVar 3)) fdNil) gLen))))) (dSh (dC (.int 0))))))))) (dSeq (dDrop (xLift (dPop 3)))
    (dRet (xLift (dWith (fdCons (dSh (dC (.str "note"))) fdNil) gTupD)))) dNext)
    (dSeq (dIf (xbLift (dOr (dBl (dSh (dOp gEq (dSh (dVar 2)) (dSh (dC (.int 0)))))) (dBl (dSh (dOp gLt (dSh (dVar 4)) (dSh (dC (.int 5)))))))) (dSeq (dIf (xbLift (dBl (dSh (dOp gEq (dSh (dVar 4)) (dSh (dC (.int 1))))))) (dRet (xLift (dOp gIx (dSh (dWith (fdCons (dSh (dWith (fdCons (dSh (dC (.str "yes"))) fdNil) gTupD)) (fdCons (dSh (dWith (fdCons (dSh (dC (.str "no"))) fdNil) gTupD)) (fdCons (dSh (dWith (fdCons (dSh (dC (.str "yes"))) fdNil) gTupD)) fdNil))) gLstD)) (dSh (dCall fn__law_take (daCons (dVar 0) (daCons (dC (.int 3)) daNil))))))) dNext)
    (dRet (xLift (dCall fn__law_named (daCons (dVar 0) (daCons (dOp gIx (dSh (dWith (fdCons (dSh (dC (.str "put"))) (fdCons (dSh (dC (.str "is"))) (fdCons (dSh (dC (.str "put"))) fdNil))) gLstD)) (dSh (dOp gMod (dSh (dVar 4)) (dSh (dC (.int 3)))))) (daCons (dVar 1) daNil))))))) dNext)
    (dSeq (dIf (xbLift (dBl (dSh (dOp gLt (dSh (dVar 4)) (dSh (dC (.int 7))))))) (dRet (xLift (dWith (fdCons (dSh (dC (.str "not"))) (fdCons (dSh (dCall (fn__law_test kk) (daCons (dVar 0) (daCons (dVar 1) (daCons (dWith (fdCons (dSh (dOp gSubI (dSh (dVar 2)) (dSh (dC (.int 1))))) (fdCons (dSh (dC (.int 2))) fdNil)) gMin2) daNil))))) fdNil)) gTupD))) dNext)
    (dSeq (dIf (xbLift (dBl (dSh (dOp gLt (dSh (dVar 4)) (dSh (dC (.int 9))))))) (dRet (xLift (dWith (fdCons (dSh (dC (.str "again"))) (fdCons (dSh (dCall self (daCons (dVar 0) (daCons (dVar 1) (daCons (dOp gSubI (dSh (dVar 2)) (dSh (dC (.int 1)))) (daCons (dVar 3) daNil)))))) fdNil)) gTupD))) dNext)
    (dSeq (dAsg (xLift (dCall self (daCons (dVar 0) (daCons (dVar 1) (daCons (dOp gSubI (dSh (dVar 2)) (dSh (dC (.int 1)))) (daCons (dVar 3) daNil)))))) (gdName 5))
    (dRet (xLift (dWith (fdCons (dSh (dOp gIx (dSh (dWith (fdCons (dSh (dC (.str "then"))) (fdCons (dSh (dC (.str "either"))) fdNil)) gLstD)) (dSh (dOp gMod (dSh (dVar 4)) (dSh (dC (.int 2))))))) (fdCons (dSh (dVar 5)) (fdCons (dSh (dCall self (daCons (dVar 0) (daCons (dVar 1) (daCons (dOp gSubI (dSh (dVar 2)) (dSh (dC (.int 1)))) (daCons (dVar 3) daNil)))))) fdNil))) gTupD)))))))))
def fn__law_saying : Nat → FnT
  | 0 => fun _ => none
  | k + 1 => fnD 4 6 [true, true, true, true] (b__law_saying (fn__law_saying k) k)
theorem fl__law_saying : ∀ (k : Nat) (qs : List T) (z : Res × List T), fn__law_saying k qs = some z → qs.length = 4
  | 0, _, _, e => nomatch e
  | k + 1, qs, z, e => fnD_len qs z e
/-! ### _law_drawn -/
abbrev s__law_drawn : Stmt := topS 58
abbrev N__law_drawn : List Str := ["_law_script", "_law_k", "_law_deep", "_law_pile", "_law_shape_here", "_law_notes"]
theorem sc__law_drawn : FnScope N__law_drawn ["_law_script", "_law_k", "_law_deep"] (defScope s__law_drawn) := ⟨rfl, rfl, rfl, by decide +kernel, rfl, by decide +kernel, by decide +kernel⟩
def b__law_drawn : SD :=
  (dSeq (dAsg (xLift (dWith (fdCons (dSh (dCall fn__law_cell (daCons (dVar 0) (daCons (dVar 1) daNil)))) fdNil) gLstD)) (gdName 3))
    (dSeq (dAsg (xLift (dCall fn__law_shape (daCons (dVar 3) daNil))) (gdName 4))
    (dSeq (dAsg (xLift (dOp gMulL (dSh (dWith (fdCons (dSh (dC (.int 1))) fdNil) gLstD)) (dSh (dOp gIx (dSh (dWith (fdCons (dSh (dC (.int 0))) (fdCons (dSh (dC (.int 1))) (fdCons (dSh (dC (.int 2))) (fdCons (dSh (dC (.int 5))) fdNil)))) gLstD)) (dSh (dCall fn__law_take (daCons (dVar 3) (daCons (dC (.int 4)) daNil)))))))) (gdName 5))
    (dRet (xLift (dWith (fdCons (dSh (dVar 4)) (fdCons (dSh (dCall (fn__law_saying FU) (daCons (dVar 3) (daCons (dVar 4) (daCons (dVar 2) (daCons (dVar 5) daNil)))))) fdNil)) gTupD))))))
def fn__law_drawn : FnT := fnD 3 6 [true, true, true] (b__law_drawn)
omit [TbS] in
theorem fe__law_drawn {p0 p1 p2 : T} {o : O} {z : Res × List T} (e : b__law_drawn [p0, p1, p2, .un, .un, .un] = some o) (h : EV.finO 3 [true, true, true] [p0, p1, p2] o = some z) : fn__law_drawn [p0, p1, p2] = some z := EV.fnO (by rfl) e h
/-! ### _law_text -/
abbrev s__law_text : Stmt := topS 59
abbrev N__law_text : List Str := ["_law_saying_here", "_law_word"]
theorem sc__law_text : FnScope N__law_text ["_law_saying_here"] (defScope s__law_text) := ⟨rfl, rfl, rfl, by decide +kernel, rfl, by decide +kernel, by decide +kernel⟩
def b__law_text (self : FnT) (kk : Nat) : SD :=
  (dSeq (dAsg (xLift (dOp gIx (dSh (dVar 0)) (dSh (dC (.int 0))))) (gdName 1))
    (dSeq (dIf (xbLift (dBl (dSh (dOp (gIn false) (dSh (dVar 1)) (dSh (dWith (fdCons (dSh (dC (.str "yes"))) (fdCons (dSh (dC (.str "no"))) (fdCons (dSh (dC (.str "note"))) fdNil))) gLstD)))))) (dRet (xLift (dVar 1))) dNext)
    (dSeq (dIf (xbLift (dOr (dBl (dSh (dOp gEq (dSh (dVar 1)) (dSh (dC (.str "is")))))) (dBl (dSh (dOp gEq (dSh (dVar 1)) (dSh (dC (.str "put")))))))) (dRet (xLift (dOp gCatS (dSh (dOp gCatS (dSh (dOp gIxS (dSh (dC (.str "abc"))) (dSh (dOp gIx (dSh (dVar 0)) (dSh (dC (.int 1))))))) (dSh (dOp gIx (dSh (dWith (fdCons (dSh (dC (.str "="))) (fdCons (dSh (dC (.str ":"))) fdNil)) gLstD)) (dSh (dWith (fdCons (dSh (dOp gEq (dSh (dVar 1)) (dSh (dC (.str "put"))))) fdNil) gInt)))))) (dSh (dWith (fdCons (dSh (dOp gIx (dSh (dVar 0)) (dSh (dC (.int 2))))) fdNil) gStrI))))) dNext)
    (dSeq (dIf (xbLift (dOr (dBl (dSh (dOp gEq (dSh (dVar 1)) (dSh (dC (.str "not")))))) (dBl (dSh (dOp gEq (dSh (dVar 1)) (dSh (dC (.str "again")))))))) (dRet (xLift (dOp gCatS (dSh (dOp gCatS (dSh (dOp gCatS (dSh (dVar 1)) (dSh (dC (.str "("))))) (dSh (dCall self (daCons (dOp gIx (dSh (dVar 0)) (dSh (dC (.int 1)))) daNil))))) (dSh (dC (.str ")")))))) dNext)
    (dRet (xLift (dOp gCatS (dSh (dOp gCatS (dSh (dOp gCatS (dSh (dOp gCatS (dSh (dC (.str "("))) (dSh (dCall self (daCons (dOp gIx (dSh (dVar 0)) (dSh (dC (.int 1)))) daNil))))) (dSh (dOp gIx (dSh (dWith (fdCons (dSh (dC (.str ";"))) (fdCons (dSh (dC (.str "|"))) fdNil)) gLstD)) (dSh (dWith (fdCons (dSh (dOp gEq (dSh (dVar 1)) (dSh (dC (.str "either"))))) fdNil) gInt)))))) (dSh (dCall self (daCons (dOp gIx (dSh (dVar 0)) (dSh (dC (.int 2)))) daNil))))) (dSh (dC (.str ")"))))))))))
def fn__law_text : Nat → FnT
  | 0 => fun _ => none
  | k + 1 => fnD 1 2 [true] (b__law_text (fn__law_text k) k)
omit [TbS] in
theorem fe__law_text {k : Nat} {p0 : T} {o : O} {z : Res × List T} (e : b__law_text (fn__law_text k) k [p0, .un] = some o) (h : EV.finO 1 [true] [p0] o = some z) : fn__law_text (k + 1) [p0] = some z := EV.fnO (by rfl) e h
theorem fl__law_text : ∀ (k : Nat) (qs : List T) (z : Res × List T), fn__law_text k qs = some z → qs.length = 1
  | 0, _, _, e => nomatch e
  | k + 1, qs, z, e => fnD_len qs z e
/-! ### law -/
abbrev s_law : Stmt := topS 60
abbrev N_law : List Str := ["_law_script", "_law_some", "_law_k", "_law_shape_here", "_law_saying_here", "_law_kept", "_law_text_here"]
theorem sc_law : FnScope N_law ["_law_script"] (defScope s_law) := ⟨rfl, rfl, rfl, by decide +kernel, rfl, by decide +kernel, by decide +kernel⟩
@[reducible] def L_law_1 (Z : Zs) : SD :=
  (dDrop (xLift (dAppend 1 (dMv (dCall fn__law_drawn (daCons (dVar 0) (daCons (dVar 2) (daCons (dC (.int 4)) daNil))))))))
@[reducible] def L_law_2 (Z : Zs) : SD :=
  (dSeq (dAsg (xLift (dWith (fdCons (dSh (dVar 4)) fdNil) gRep)) (gdName 5))
    (dSeq (dAsg (dCallX (fn_shown_saying Z) (daCons (dVar 3) (daCons (dVar 4) daNil))) (gdName 6))
    (dSeq (dIf (xbLift (dOr (dNot (dBl (dSh (dIsi .str (dSh (dVar 6)))))) (dOr (dBl (dSh (dOp gNe (dSh (dVar 6)) (dSh (dCall (fn__law_text FU) (daCons (dVar 4) daNil)))))) (dBl (dSh (dOp gNe (dSh (dWith (fdCons (dSh (dVar 4)) fdNil) gRep)) (dSh (dVar 5)))))))) (dRet (xLift (dC (.bl false)))) dNext)
    (dIf (xbLift (dBl (dSh (dOp gNe (dSh (dWith (fdCons (dSh (dCall (fn_read_saying Z) (daCons (dVar 3) (daCons (dVar 6) daNil)))) fdNil) gRep)) (dSh (dVar 5)))))) (dRet (xLift (dC (.bl false)))) dNext))))
def b_law (Z : Zs) : SD :=
  (dSeq (dAsg (xLift (dWith (fdCons (dSh (dWith (fdCons (dSh (dWith (fdCons (dSh (dC (.int 2))) (fdCons (dSh (dC (.int 2))) fdNil)) gTupD)) (fdCons (dSh (dWith (fdCons (dSh (dC (.str "yes"))) fdNil) gTupD)) fdNil)) gTupD)) (fdCons (dSh (dWith (fdCons (dSh (dWith (fdCons (dSh (dC (.int 2))) (fdCons (dSh (dC (.int 2))) fdNil)) gTupD)) (fdCons (dSh (dWith (fdCons (dSh (dC (.str "no"))) fdNil) gTupD)) fdNil)) gTupD)) (fdCons (dSh (dWith (fdCons (dSh (dWith (fdCons (dSh (dC (.int 4))) (fdCons (dSh (dC (.int 3))) (fdCons (dSh (dC (.int 2))) fdNil))) gTupD)) (fdCons (dSh (dWith (fdCons (dSh (dC (.str "put"))) (fdCons (dSh (dC (.int 2))) (fdCons (dSh (dC (.int 1))) fdNil))) gTupD)) fdNil)) gTupD)) (fdCons (dSh (dWith (fdCons (dSh (dWith (fdCons (dSh (dC (.int 4))) (fdCons (dSh (dC (.int 3))) (fdCons (dSh (dC (.int 2))) fdNil))) gTupD)) (fdCons (dSh (dWith (fdCons (dSh (dC (.str "not"))) (fdCons (dSh (dWith (fdCons (dSh (dC (.str "is"))) (fdCons (dSh (dC (.int 1))) (fdCons (dSh (dC (.int 2))) fdNil))) gTupD)) fdNil)) gTupD)) fdNil)) gTupD)) fdNil)))) gLstD)) (gdName 1))
    (dSeq (dFor (dRange1 (fdCons (dSh (dC (.int 5))) fdNil)) (gdName 2) (L_law_1 Z))
    (dSeq (dFor (dItemsL (dSh (dVar 1))) (gdTup 2 (gdCons (gdName 3) (gdCons (gdName 4) gdNil))) (L_law_2 Z))
    (dRet (xLift (dC (.bl true)))))))
def fn_law (Z : Zs) : FnT := fnD 1 7 [true] (b_law Z)
omit [TbS] in
theorem fe_law (Z : Zs) {p0 : T} {o : O} {z : Res × List T} (e : b_law Z [p0, .un, .un, .un, .un, .un, .un] = some o) (h : EV.finO 1 [true] [p0] o = some z) : fn_law Z [p0] = some z := EV.fnO (by rfl) e h
end KQ
set_option Elab.async false
set_option linter.all false
set_option maxRecDepth 100000
set_option maxHeartbeats 4000000
namespace KQ
open PySem PySem.Spec PyProof.Rows L2 Q
variable [TbS]
theorem ok_is_number {P : Program} {w : World} {K : PySem.W.Frag} {mg : Str → Option Value} {base : Heap} {Z : Zs} {f : Addr} {fd : FuncData} (T : Txt K mg Z w P) (F : Fun K "is_number" "is_number" s_is_number f fd) : FnG P w K mg base 1 f fd ["thing"] (spD K 1 fn_is_number) := by
  have h := fn_ok (P := P) (w := w) (mg := mg) (base := base) (k := 0) (g := b_is_number) (fx := [true]) F sc_is_number rfl (fun cdv A outer s H E gu hr => by
    have tk := takes_of (X := cxOf (L2.CX P w) P w K mg base N_is_number "is_number" (defScope s_is_number) f cdv A outer s H E) rfl rfl rfl rfl
    exact ⟨_, (pss_one (ps_ret (pe_and (pe_callB call_isi (by rfl) T.b_isinstance (by decide +kernel) (pa_cons (pv 0) (pa_cons (pe_bltn (v := .ty "int") (by rfl) T.b_int (by decide +kernel) rfl) pa_nil))) (pe_one (pe_not (pe_callB call_isi (by rfl) T.b_isinstance (by decide +kernel) (pa_cons (pv 0) (pa_cons (pe_bltn (v := .ty "bool") (by rfl) T.b_bool (by decide +kernel) rfl) pa_nil)))))))), (ds_ret (dx_of (de_andV (df_of (de_isi (c := .int) (df_of de_var))) (df_of (de_notV (df_of (de_isi (c := .bool) (df_of de_var))))))))⟩)
  exact h
end KQ
set_option Elab.async false
set_option linter.all false
set_option maxRecDepth 100000
set_option maxHeartbeats 4000000
namespace KQ
open PySem PySem.Spec PyProof.Rows L2 Q
variable [TbS]
theorem ok_is_below {P : Program} {w : World} {K : PySem.W.Frag} {mg : Str → Option Value} {base : Heap} {Z : Zs} {f : Addr} {fd : FuncData} (T : Txt K mg Z w P) (F : Fun K "is_below" "is_below" s_is_below f fd) (E_is_number : FnE P w K mg base 1 "is_number" ["thing"] fn_is_number) : FnG P w K mg base 2 f fd ["thing", "most"] (spD K 2 fn_is_below) := by
  have h := fn_ok (P := P) (w := w) (mg := mg) (base := base) (k := 1) (g := b_is_below) (fx := [true, true]) F sc_is_below rfl (fun cdv A outer s H E gu hr => by
    have tk := takes_of (X := cxOf (L2.CX P w) P w K mg base N_is_below "is_below" (defScope s_is_below) f cdv A outer s H E) rfl rfl rfl rfl
    exact ⟨_, (pss_one (ps_ret (pe_and (pe_fnE E_is_number (Room.mono hr (by omega)) gu (by rfl) (fun σ => passNo σ) (pa_cons (pv 0) pa_nil)) (pe_one (pe_chain op_le op_lt pe_int (pv 0) (pv 1)))))), (ds_ret (dx_of (de_andV (df_of (de_fn E_is_number.len (da_cons de_var da_nil))) (df_of (de_chain (df_of (de_c fun _ => .int 0)) (df_of de_var) (df_of de_var) dc_le dc_lt)))))⟩)
  exact h
end KQ
set_option Elab.async false
set_option linter.all false
set_option maxRecDepth 100000
set_option maxHeartbeats 4000000
namespace KQ
open PySem PySem.Spec PyProof.Rows L2 Q
variable [TbS]
theorem ok_is_shape {P : Program} {w : World} {K : PySem.W.Frag} {mg : Str → Option Value} {base : Heap} {Z : Zs} {f : Addr} {fd : FuncData} (T : Txt K mg Z w P) (F : Fun K "is_shape" "is_shape" s_is_shape f fd) (E_is_number : FnE P w K mg base 1 "is_number" ["thing"] fn_is_number) : FnG P w K mg base 2 f fd ["thing"] (spD K 1 fn_is_shape) := by
  have h := fn_ok (P := P) (w := w) (mg := mg) (base := base) (k := 1) (g := b_is_shape) (fx := [true]) F sc_is_shape rfl (fun cdv A outer s H E gu hr => by
    have tk := takes_of (X := cxOf (L2.CX P w) P w K mg base N_is_shape "is_shape" (defScope s_is_shape) f cdv A outer s H E) rfl rfl rfl rfl
    exact ⟨_, (pss_cons (ps_if (PW.pt (pw_or (pt_not (pt_val (pe_callB call_isi (by rfl) T.b_isinstance (by decide +kernel) (pa_cons (pv 0) (pa_cons (pe_bltn (v := .ty "tuple") (by rfl) T.b_tuple (by decide +kernel) rfl) pa_nil))))) (pw_or1 (pt_not (pt_chain op_le op_le pe_int (pe_callB call_len (by rfl) T.b_len (by decide +kernel) (pa_cons (pv 0) pa_nil)) (pe_glob (v := .int (3)) (by rfl) T.k_MOST_FIELDS ⟨_, rfl⟩)))))) (pss_one (ps_ret pe_bl)) pss_nil)
    (pss_cons (ps_set (i := 1) sc_is_shape.nd rfl (Or.inl rfl) pe_int)
    (pss_cons (ps_for (passes_of rfl) rfl (pi_tup (pv 0)) (pg_name (i := 2) sc_is_shape.nd rfl (Or.inl rfl)) (pss_cons (ps_if (PW.pt (pw_or (pt_not (pt_val (pe_fnE E_is_number (Room.mono hr (by omega)) gu (by rfl) (fun σ => passNo σ) (pa_cons (pv 2) pa_nil)))) (pw_or1 (pt_not (pt_chain op_le op_le pe_int (pv 2) (pe_glob (v := .int (4)) (by rfl) T.k_MOST_VALUES ⟨_, rfl⟩)))))) (pss_one (ps_ret pe_bl)) pss_nil)
    (pss_one (ps_aug (i := 1) sc_is_shape.nd rfl (Or.inl rfl) (pv 2) iop_mul))))
    (pss_one (ps_ret (pe_cmpR op_le (pv 1) (pe_glob (v := .int (27)) (by rfl) T.k_MOST_LETTERS ⟨_, rfl⟩) (nomark _))))))), (ds_seq (ds_if (dtx_of (dt_or (dt_not (dt_bl (df_of (de_isi (c := .tuple) (df_of de_var))))) (dt_not (dt_test (df_of (de_chain (df_of (de_c fun _ => .int 1)) (df_of (de_with (fd_cons (df_of de_var) fd_nil) dc_len)) (df_of (de_c fun _ => .int (3))) dc_le dc_le)))))) (ds_ret (dx_of (de_c fun _ => .bl false))) ds_next)
    (ds_seq (ds_asg (dx_of (de_c fun _ => .int 1)) (dg_name (by rfl)))
    (ds_seq (ds_for (di_tup (df_of de_var)) (dg_name (by rfl)) (ds_seq (ds_if (dtx_of (dt_or (dt_not (dt_bl (df_of (de_fn E_is_number.len (da_cons de_var da_nil))))) (dt_not (dt_test (df_of (de_chain (df_of (de_c fun _ => .int 1)) (df_of de_var) (df_of (de_c fun _ => .int (4))) dc_le dc_le)))))) (ds_ret (dx_of (de_c fun _ => .bl false))) ds_next)
    (ds_aug (by rfl) (df_of de_var) dc_mul1)))
    (ds_ret (dx_of (de_op (df_of de_var) (df_of (de_c fun _ => .int (27))) dc_le))))))⟩)
  exact h
end KQ
set_option Elab.async false
set_option linter.all false
set_option maxRecDepth 100000
set_option maxHeartbeats 4000000
namespace KQ
open PySem PySem.Spec PyProof.Rows L2 Q
variable [TbS]
theorem ok_check_shape {P : Program} {w : World} {K : PySem.W.Frag} {mg : Str → Option Value} {base : Heap} {Z : Zs} {f : Addr} {fd : FuncData} (T : Txt K mg Z w P) (F : Fun K "check_shape" "check_shape" s_check_shape f fd) (E_is_shape : FnE P w K mg base 2 "is_shape" ["thing"] fn_is_shape) : FnG P w K mg base 3 f fd ["shape"] (spD K 1 (fn_check_shape Z)) := by
  have h := fn_ok (P := P) (w := w) (mg := mg) (base := base) (k := 2) (g := b_check_shape Z) (fx := [true]) F sc_check_shape rfl (fun cdv A outer s H E gu hr => by
    have tk := takes_of (X := cxOf (L2.CX P w) P w K mg base N_check_shape "check_shape" (defScope s_check_shape) f cdv A outer s H E) rfl rfl rfl rfl
    exact ⟨_, (pss_one (ps_if (pt_not (pt_val (pe_fnE E_is_shape (Room.mono hr (by omega)) gu (by rfl) (fun σ => passNo σ) (pa_cons (pv 0) pa_nil)))) (pss_one (ps_raise rfl tk (pmk_own PySem.F.excBase_ValueError T.x_NoShape T.c_NoShape T.p_NoShape (raises_own T.u_NoShape T.t_NoShape) (by rfl)))) pss_nil)), (ds_if (dtx_of (dt_not (dt_bl (df_of (de_fn E_is_shape.len (da_cons de_var da_nil)))))) ds_raise ds_next)⟩)
  exact h
end KQ
set_option Elab.async false
set_option linter.all false
set_option maxRecDepth 100000
set_option maxHeartbeats 4000000
namespace KQ
open PySem PySem.Spec PyProof.Rows L2 Q
variable [TbS]
theorem ok_is_name {P : Program} {w : World} {K : PySem.W.Frag} {mg : Str → Option Value} {base : Heap} {Z : Zs} {f : Addr} {fd : FuncData} (T : Txt K mg Z w P) (F : Fun K "is_name" "is_name" s_is_name f fd) (Bc : fd.code = .ref Z.c_is_name) (B : GxR.TabB base mg Z.c_is_name Z.t_is_name) (Bt : TbS.tb Z.t_is_name) : FnG P w K mg base 2 f fd ["word"] (spD K 1 fn_is_name) := by
  have h := fn_okC (P := P) (w := w) (mg := mg) (base := base) (k := 1) (g := b_is_name) (fx := [true]) F sc_is_name rfl (fun cdv A outer s H E hcd gu hr => by
    have tk := takes_of (X := cxOf (L2.CX P w) P w K mg base N_is_name "is_name" (defScope s_is_name) f cdv A outer s H E) rfl rfl rfl rfl
    exact ⟨_, (pss_cons (ps_if (PW.pt (pw_or (pt_not (pt_chain op_le op_le (pe_glob (v := .int (2)) (by rfl) T.k_SHORTEST_NAME ⟨_, rfl⟩) (pe_callB call_len (by rfl) T.b_len (by decide +kernel) (pa_cons (pv 0) pa_nil)) (pe_glob (v := .int (8)) (by rfl) T.k_LONGEST_NAME ⟨_, rfl⟩))) (pw_or1 (pt_cmpR op_in_seq (pv 0) (pe_glob (v := .ref Z.NO_NAMES) (by rfl) T.k_NO_NAMES rfl) (by rfl))))) (pss_one (ps_ret pe_bl)) pss_nil)
    (pss_one (ps_ret (pe_allG (own := [("sign", 1)]) (c := Z.c_is_name) (P := Z.t_is_name) rfl sc_is_name.nd hr (by rfl) T.b_all B (hcd.symm.trans Bc) (gxOk_by (N := N_is_name) (sc := defScope s_is_name) (by decide +kernel)) (pi_list (pv 0)) (fun _ _ _ _ _ _ => (pg_name (i := 1) sc_is_name.nd rfl (Or.inl rfl))) (fun _ _ _ _ _ _ => (pe_cmpR op_sign (pv 1) (pe_glob (v := .str "abcdefghijklmnopqrstuvwxyz") (by rfl) T.k_SMALL_LETTERS ⟨_, rfl⟩) (by rfl))))))), (ds_seq (ds_if (dtx_of (dt_or (dt_not (dt_test (df_of (de_chain (df_of (de_c fun _ => .int (2))) (df_of (de_with (fd_cons (df_of de_var) fd_nil) dc_len)) (df_of (de_c fun _ => .int (8))) dc_le dc_le)))) (dt_test (df_of (de_op (df_of de_var) (df_of (de_c T.r_NO_NAMES)) dc_in))))) (ds_ret (dx_of (de_c fun _ => .bl false))) ds_next)
    (ds_ret (dx_of (de_allG Bt (di_list (df_of de_var)) (dg_name (by rfl)) (df_of (de_op (df_of de_var) (df_of (de_c fun _ => .str "abcdefghijklmnopqrstuvwxyz")) dc_sign))))))⟩)
  exact h
end KQ
set_option Elab.async false
set_option linter.all false
set_option maxRecDepth 100000
set_option maxHeartbeats 4000000
namespace KQ
open PySem PySem.Spec PyProof.Rows L2 Q
variable [TbS]
theorem ok_is_field_word {P : Program} {w : World} {K : PySem.W.Frag} {mg : Str → Option Value} {base : Heap} {Z : Zs} {f : Addr} {fd : FuncData} (T : Txt K mg Z w P) (F : Fun K "is_field_word" "is_field_word" s_is_field_word f fd) : FnG P w K mg base 1 f fd ["word"] (spD K 1 fn_is_field_word) := by
  have h := fn_ok (P := P) (w := w) (mg := mg) (base := base) (k := 0) (g := b_is_field_word) (fx := [true]) F sc_is_field_word rfl (fun cdv A outer s H E gu hr => by
    have tk := takes_of (X := cxOf (L2.CX P w) P w K mg base N_is_field_word "is_field_word" (defScope s_is_field_word) f cdv A outer s H E) rfl rfl rfl rfl
    exact ⟨_, (pss_one (ps_ret (pe_and (pe_cmpR (op_eqD (Room.units hr)) (pe_callB call_len (by rfl) T.b_len (by decide +kernel) (pa_cons (pv 0) pa_nil)) pe_int (nomark _)) (pe_and (pe_cmpR op_sign (pe_ix ix_seq (pv 0) pe_int (fun _ _ => rfl)) (pe_glob (v := .str "abc") (by rfl) T.k_FIELD_SIGNS ⟨_, rfl⟩) (by rfl)) (pe_and (pe_cmpR (op_kin T.r_FIELD_MARKS) (pe_ix ix_seq (pv 0) pe_int (fun _ _ => rfl)) (pe_glob (v := .ref Z.FIELD_MARKS) (by rfl) T.k_FIELD_MARKS rfl) (by rfl)) (pe_one (pe_cmpR op_sign (pe_ix ix_seq (pv 0) pe_int (fun _ _ => rfl)) (pe_glob (v := .str "0123456789") (by rfl) T.k_FIGURES ⟨_, rfl⟩) (by rfl)))))))), (ds_ret (dx_of (de_andV (df_of (de_op (df_of (de_with (fd_cons (df_of de_var) fd_nil) dc_len)) (df_of (de_c fun _ => .int 3)) dc_eq)) (df_of (de_andV (df_of (de_op (df_of (de_op (df_of de_var) (df_of (de_c fun _ => .int 0)) dc_ixS)) (df_of (de_c fun _ => .str "abc")) dc_sign)) (df_of (de_andV (df_of (de_kin (df_of (de_op (df_of de_var) (df_of (de_c fun _ => .int 1)) dc_ixS)))) (df_of (de_op (df_of (de_op (df_of de_var) (df_of (de_c fun _ => .int 2)) dc_ixS)) (df_of (de_c fun _ => .str "0123456789")) dc_sign)))))))))⟩)
  exact h
end KQ
set_option Elab.async false
set_option linter.all false
set_option maxRecDepth 100000
set_option maxHeartbeats 4000000
namespace KQ
open PySem PySem.Spec PyProof.Rows L2 Q
variable [TbS]
theorem ok_words_in {P : Program} {w : World} {K : PySem.W.Frag} {mg : Str → Option Value} {base : Heap} {Z : Zs} {f : Addr} {fd : FuncData} (T : Txt K mg Z w P) (F : Fun K "words_in" "words_in" s_words_in f fd) : FnG P w K mg base 1 f fd ["text"] (spD K 1 (fn_words_in Z)) := by
  have h := fn_ok (P := P) (w := w) (mg := mg) (base := base) (k := 0) (g := b_words_in Z) (fx := [true]) F sc_words_in rfl (fun cdv A outer s H E gu hr => by
    have tk := takes_of (X := cxOf (L2.CX P w) P w K mg base N_words_in "words_in" (defScope s_words_in) f cdv A outer s H E) rfl rfl rfl rfl
    exact ⟨_, (pss_apart (sp := 32) (it := 0) (ix := 1) (iv := 2) (by decide +kernel) rfl (Or.inl rfl) (by decide) (pst_setT (i := 1) sc_words_in.nd rfl (Or.inl rfl) (CwR.pet_replC (pv 0))) (ps_sparse (ix := 1) (iv := 2) (passes_of rfl) rfl sc_words_in.nd rfl rfl rfl rfl (by decide) (.cons (.cons (.cons .nil rfl) rfl) rfl) (by decide)) (pss_one (ps_raise rfl tk (pmk_own PySem.F.excBase_ValueError T.x_NoText T.c_NoText T.p_NoText (raises_own T.u_NoText T.t_NoText) (by rfl))))
    (pss_one (ps_ret (pe_lc (own := [("word", 3)]) rfl sc_words_in.nd (pi_list (pe_split (pv 1) pe_str)) (blkOk_by (N := N_words_in) (sc := defScope s_words_in) (by decide +kernel)) (fun _ _ _ _ _ => (pg_name (i := 3) sc_words_in.nd rfl (Or.inl rfl))) (fun _ _ _ _ _ => (pts_one (pt_truth (pv 3) (by intro _; rfl)))) (fun _ _ _ _ _ => (pv 3))))) (show 1 < N_words_in.length by decide) (by decide)), (ds_apart (ds_ret (dx_of (de_comp (di_list (df_of (de_m1 (df_of de_var) (df_of (de_c fun _ => .str " ")) dc_split))) (dg_name (by rfl)) (dt_tru (df_of de_var)) (dm_of de_var)))) apart_ok (by rfl) (by rfl))⟩)
  exact h
end KQ
set_option Elab.async false
set_option linter.all false
set_option maxRecDepth 100000
set_option maxHeartbeats 4000000
namespace KQ
open PySem PySem.Spec PyProof.Rows L2 Q
variable [TbS]
theorem ok_plain_part {P : Program} {w : World} {K : PySem.W.Frag} {mg : Str → Option Value} {base : Heap} {Z : Zs} {f : Addr} {fd : FuncData} (T : Txt K mg Z w P) (F : Fun K "plain_part" "plain_part" s_plain_part f fd) (E_is_name : FnE P w K mg base 2 "is_name" ["word"] fn_is_name) (E_is_field_word : FnE P w K mg base 1 "is_field_word" ["word"] fn_is_field_word) : FnG P w K mg base 3 f fd ["word", "with_names"] (spD K 2 (fn_plain_part Z)) := by
  have h := fn_ok (P := P) (w := w) (mg := mg) (base := base) (k := 2) (g := b_plain_part Z) (fx := [true, true]) F sc_plain_part rfl (fun cdv A outer s H E gu hr => by
    have tk := takes_of (X := cxOf (L2.CX P w) P w K mg base N_plain_part "plain_part" (defScope s_plain_part) f cdv A outer s H E) rfl rfl rfl rfl
    exact ⟨_, (pss_cons (ps_if (pt_cmpR op_in_seq (pv 0) (pe_glob (v := .ref Z.SINGLE_WORDS) (by rfl) T.k_SINGLE_WORDS rfl) (by rfl)) (pss_one (ps_ret (pe_tup (pa_cons (pv 0) pa_nil)))) pss_nil)
    (pss_cons (ps_if (pt_val (pe_fnE E_is_field_word (Room.mono hr (by omega)) gu (by rfl) (fun σ => passNo σ) (pa_cons (pv 0) pa_nil))) (pss_one (ps_ret (pe_tup (pa_cons (pe_kix (by rfl) T.k_FIELD_MARKS T.r_FIELD_MARKS (pe_ix ix_seq (pv 0) pe_int (fun _ _ => rfl)) (fun _ _ => rfl)) (pa_cons (pe_sindex (pe_glob (v := .str "abc") (by rfl) T.k_FIELD_SIGNS ⟨_, rfl⟩) (pe_ix ix_seq (pv 0) pe_int (fun _ _ => rfl))) (pa_cons (pe_callTy call_int_str (by rfl) T.b_int (by decide +kernel) (pa_cons (pe_ix ix_seq (pv 0) pe_int (fun _ _ => rfl)) pa_nil)) pa_nil)))))) pss_nil)
    (pss_cons (ps_if (PW.pt (pw_and (pt_truth (pv 1) (by intro _; rfl)) (pw_and1 (pt_val (pe_fnE E_is_name (Room.mono hr (by omega)) gu (by rfl) (fun σ => passNo σ) (pa_cons (pv 0) pa_nil)))))) (pss_one (ps_ret (pe_tup (pa_cons pe_str (pa_cons (pv 0) pa_nil))))) pss_nil)
    (pss_one (ps_raise rfl tk (pmk_own PySem.F.excBase_ValueError T.x_NoText T.c_NoText T.p_NoText (raises_own T.u_NoText T.t_NoText) (by rfl))))))), (ds_seq (ds_if (dtx_of (dt_test (df_of (de_op (df_of de_var) (df_of (de_c T.r_SINGLE_WORDS)) dc_in)))) (ds_ret (dx_of (de_tup (fd_cons (df_of de_var) fd_nil)))) ds_next)
    (ds_seq (ds_if (dtx_of (dt_bl (df_of (de_fn E_is_field_word.len (da_cons de_var da_nil))))) (ds_ret (dx_of (de_tup (fd_cons (df_of (de_kix (df_of (de_op (df_of de_var) (df_of (de_c fun _ => .int 1)) dc_ixS)))) (fd_cons (df_of (de_m1 (df_of (de_c fun _ => .str "abc")) (df_of (de_op (df_of de_var) (df_of (de_c fun _ => .int 0)) dc_ixS)) dc_sindex)) (fd_cons (df_of (de_with (fd_cons (df_of (de_op (df_of de_var) (df_of (de_c fun _ => .int 2)) dc_ixS)) fd_nil) dc_intS)) fd_nil)))))) ds_next)
    (ds_seq (ds_if (dtx_of (dt_and (dt_tru (df_of de_var)) (dt_bl (df_of (de_fn E_is_name.len (da_cons de_var da_nil)))))) (ds_ret (dx_of (de_tup (fd_cons (df_of (de_c fun _ => .str "name")) (fd_cons (df_of de_var) fd_nil))))) ds_next)
    ds_raise)))⟩)
  exact h
end KQ
set_option Elab.async false
set_option linter.all false
set_option maxRecDepth 100000
set_option maxHeartbeats 4000000
namespace KQ
open PySem PySem.Spec PyProof.Rows L2 Q
variable [TbS]
theorem ok_open_bracket {P : Program} {w : World} {K : PySem.W.Frag} {mg : Str → Option Value} {base : Heap} {Z : Zs} {f : Addr} {fd : FuncData} (T : Txt K mg Z w P) (F : Fun K "open_bracket" "open_bracket" s_open_bracket f fd) : FnG P w K mg base 1 f fd ["opened", "kind"] (spD K 2 (fn_open_bracket Z)) := by
  have h := fn_ok (P := P) (w := w) (mg := mg) (base := base) (k := 0) (g := b_open_bracket Z) (fx := [true, true]) F sc_open_bracket rfl (fun cdv A outer s H E gu hr => by
    have tk := takes_of (X := cxOf (L2.CX P w) P w K mg base N_open_bracket "open_bracket" (defScope s_open_bracket) f cdv A outer s H E) rfl rfl rfl rfl
    exact ⟨_, (pss_cons (ps_expr (pe_bm PySem.F.plainAttrs_list PySem.F.slot_list_append PySem.F.type_list_append mt_append (pv 0) (pa_cons (pv 1) pa_nil)))
    (pss_one (ps_if (pt_cmpR op_gt (pe_callB call_len (by rfl) T.b_len (by decide +kernel) (pa_cons (pv 0) pa_nil)) (pe_glob (v := .int (40)) (by rfl) T.k_MOST_OPEN ⟨_, rfl⟩) (nomark _)) (pss_one (ps_raise rfl tk (pmk_own PySem.F.excBase_ValueError T.x_NoText T.c_NoText T.p_NoText (raises_own T.u_NoText T.t_NoText) (by rfl)))) pss_nil))), (ds_seq (ds_drop (dx_of (de_append (dm_of de_var))))
    (ds_if (dtx_of (dt_scal (dt_test (df_of (de_op (df_of (de_of (df_scal (df_of (de_with (fd_cons (df_of de_var) fd_nil) dc_len))))) (df_of (de_c fun _ => .int (40))) dc_gt))))) ds_raise ds_next))⟩)
  exact h
end KQ
set_option Elab.async false
set_option linter.all false
set_option maxRecDepth 100000
set_option maxHeartbeats 4000000
namespace KQ
open PySem PySem.Spec PyProof.Rows L2 Q
variable [TbS]
theorem ok_join_bracket {P : Program} {w : World} {K : PySem.W.Frag} {mg : Str → Option Value} {base : Heap} {Z : Zs} {f : Addr} {fd : FuncData} (T : Txt K mg Z w P) (F : Fun K "join_bracket" "join_bracket" s_join_bracket f fd) : FnG P w K mg base 1 f fd ["opened", "kind"] (spD K 2 (fn_join_bracket Z)) := by
  have h := fn_ok (P := P) (w := w) (mg := mg) (base := base) (k := 0) (g := b_join_bracket Z) (fx := [true, true]) F sc_join_bracket rfl (fun cdv A outer s H E gu hr => by
    have tk := takes_of (X := cxOf (L2.CX P w) P w K mg base N_join_bracket "join_bracket" (defScope s_join_bracket) f cdv A outer s H E) rfl rfl rfl rfl
    exact ⟨_, (pss_cons (ps_if (PW.pt (pw_or (pt_not (pt_truth (pv 0) (by intro _; rfl))) (pw_or1 (pt_cmpR (op_neD (Room.units hr)) (pe_ix ix_seq (pv 0) (pe_un un_neg pe_int) (fun _ _ => rfl)) (pe_glob (v := .str "(") (by rfl) T.k_UNDECIDED ⟨_, rfl⟩) (nomark _))))) (pss_one (ps_raise rfl tk (pmk_own PySem.F.excBase_ValueError T.x_NoText T.c_NoText T.p_NoText (raises_own T.u_NoText T.t_NoText) (by rfl)))) pss_nil)
    (pss_one (ps_asg (pv 1) (pg_sub (pv 0) (pe_un un_neg pe_int) set_list)))), (ds_seq (ds_if (dtx_of (dt_scal (dt_or (dt_not (dt_tru (df_of de_var))) (dt_test (df_of (de_op (df_of (de_op (df_of de_var) (df_of (de_un (df_of (de_c fun _ => .int 1)) dc_neg)) dc_ix)) (df_of (de_c fun _ => .str "(")) dc_ne)))))) ds_raise ds_next)
    (ds_asg (dx_of de_var) (dg_ix (df_of (de_un (df_of (de_c fun _ => .int 1)) dc_neg)))))⟩)
  exact h
end KQ
set_option Elab.async false
set_option linter.all false
set_option maxRecDepth 100000
set_option maxHeartbeats 4000000
namespace KQ
open PySem PySem.Spec PyProof.Rows L2 Q
variable [TbS]
theorem ok_close_bracket {P : Program} {w : World} {K : PySem.W.Frag} {mg : Str → Option Value} {base : Heap} {Z : Zs} {f : Addr} {fd : FuncData} (T : Txt K mg Z w P) (F : Fun K "close_bracket" "close_bracket" s_close_bracket f fd) : FnG P w K mg base 1 f fd ["opened"] (spD K 1 (fn_close_bracket Z)) := by
  have h := fn_ok (P := P) (w := w) (mg := mg) (base := base) (k := 0) (g := b_close_bracket Z) (fx := [true]) F sc_close_bracket rfl (fun cdv A outer s H E gu hr => by
    have tk := takes_of (X := cxOf (L2.CX P w) P w K mg base N_close_bracket "close_bracket" (defScope s_close_bracket) f cdv A outer s H E) rfl rfl rfl rfl
    exact ⟨_, (pss_cons (ps_if (PW.pt (pw_or (pt_not (pt_truth (pv 0) (by intro _; rfl))) (pw_or1 (pt_cmpR (op_eqD (Room.units hr)) (pe_ix ix_seq (pv 0) (pe_un un_neg pe_int) (fun _ _ => rfl)) (pe_glob (v := .str "(") (by rfl) T.k_UNDECIDED ⟨_, rfl⟩) (nomark _))))) (pss_one (ps_raise rfl tk (pmk_own PySem.F.excBase_ValueError T.x_NoText T.c_NoText T.p_NoText (raises_own T.u_NoText T.t_NoText) (by rfl)))) pss_nil)
    (pss_one (ps_ret (pe_bm0 PySem.F.plainAttrs_list PySem.F.slot_list_pop PySem.F.type_list_pop mt_pop (pv 0))))), (ds_seq (ds_if (dtx_of (dt_scal (dt_or (dt_not (dt_tru (df_of de_var))) (dt_test (df_of (de_op (df_of (de_op (df_of de_var) (df_of (de_un (df_of (de_c fun _ => .int 1)) dc_neg)) dc_ix)) (df_of (de_c fun _ => .str "(")) dc_eq)))))) ds_raise ds_next)
    (ds_ret (dx_of de_pop)))⟩)
  exact h
end KQ
set_option Elab.async false
set_option linter.all false
set_option maxRecDepth 100000
set_option maxHeartbeats 4000000
namespace KQ
open PySem PySem.Spec PyProof.Rows L2 Q
variable [TbS]
theorem ok_parts_in {P : Program} {w : World} {K : PySem.W.Frag} {mg : Str → Option Value} {base : Heap} {Z : Zs} {f : Addr} {fd : FuncData} (T : Txt K mg Z w P) (F : Fun K "parts_in" "parts_in" s_parts_in f fd) (E_words_in : FnE P w K mg base 1 "words_in" ["text"] (fn_words_in Z)) (E_plain_part : FnE P w K mg base 3 "plain_part" ["word", "with_names"] (fn_plain_part Z)) (E_open_bracket : FnE P w K mg base 1 "open_bracket" ["opened", "kind"] (fn_open_bracket Z)) (E_join_bracket : FnE P w K mg base 1 "join_bracket" ["opened", "kind"] (fn_join_bracket Z)) (E_close_bracket : FnE P w K mg base 1 "close_bracket" ["opened"] (fn_close_bracket Z)) : FnG P w K mg base 4 f fd ["text", "with_names"] (spD K 2 (fn_parts_in Z)) := by
  have h := fn_ok (P := P) (w := w) (mg := mg) (base := base) (k := 3) (g := b_parts_in Z) (fx := [true, true]) F sc_parts_in rfl (fun cdv A outer s H E gu hr => by
    have tk := takes_of (X := cxOf (L2.CX P w) P w K mg base N_parts_in "parts_in" (defScope s_parts_in) f cdv A outer s H E) rfl rfl rfl rfl
    exact ⟨_, (pss_cons (ps_set (i := 2) sc_parts_in.nd rfl (Or.inl rfl) (pe_lst pa_nil))
    (pss_cons (ps_set (i := 3) sc_parts_in.nd rfl (Or.inl rfl) (pe_lst pa_nil))
    (pss_cons (ps_set (i := 4) sc_parts_in.nd rfl (Or.inl rfl) pe_bl)
    (pss_cons (ps_for (passes_of rfl) rfl (pi_list (pe_fnE E_words_in (Room.mono hr (by omega)) gu (by rfl) (fun σ => passNo σ) (pa_cons (pv 0) pa_nil))) (pg_name (i := 5) sc_parts_in.nd rfl (Or.inl rfl)) (pss_one (ps_if (PW.pt (pw_and (pt_truth (pv 4) (by intro _; rfl)) (pw_and1 (pt_cmpR (op_kin T.r_OPENINGS) (pv 5) (pe_glob (v := .ref Z.OPENINGS) (by rfl) T.k_OPENINGS rfl) (by rfl))))) (pss_one (ps_expr (pe_fnE (E := WE _) E_open_bracket (Room.mono hr (by omega)) gu (by rfl) (fun σ => passAt tk σ) (pa_cons (pv 3) (pa_cons (pe_kix (by rfl) T.k_OPENINGS T.r_OPENINGS (pv 5) (fun _ _ => rfl)) pa_nil))))) (pss_one (ps_if (pt_truth (pv 4) (by intro _; rfl)) (pss_cons (ps_expr (pe_bm PySem.F.plainAttrs_list PySem.F.slot_list_append PySem.F.type_list_append mt_append (pv 2) (pa_cons (pe_fnE E_plain_part (Room.mono hr (by omega)) gu (by rfl) (fun σ => passNo σ) (pa_cons (pv 5) (pa_cons (pv 1) pa_nil))) pa_nil)))
    (pss_one (ps_set (i := 4) sc_parts_in.nd rfl (Or.inl rfl) pe_bl))) (pss_one (ps_if (pt_cmpR (op_kin T.r_JOINTS) (pv 5) (pe_glob (v := .ref Z.JOINTS) (by rfl) T.k_JOINTS rfl) (by rfl)) (pss_cons (ps_expr (pe_fnE (E := WE _) E_join_bracket (Room.mono hr (by omega)) gu (by rfl) (fun σ => passAt tk σ) (pa_cons (pv 3) (pa_cons (pe_kix (by rfl) T.k_JOINTS T.r_JOINTS (pv 5) (fun _ _ => rfl)) pa_nil))))
    (pss_one (ps_set (i := 4) sc_parts_in.nd rfl (Or.inl rfl) pe_bl))) (pss_one (ps_if (pt_cmpR (op_eqD (Room.units hr)) (pv 5) pe_str (nomark _)) (pss_one (ps_expr (pe_bm PySem.F.plainAttrs_list PySem.F.slot_list_append PySem.F.type_list_append mt_append (pv 2) (pa_cons (pe_tup (pa_cons (pe_fnE E_close_bracket (Room.mono hr (by omega)) gu (by rfl) (fun σ => passNo σ) (pa_cons (pv 3) pa_nil)) pa_nil)) pa_nil)))) (pss_one (ps_raise rfl tk (pmk_own PySem.F.excBase_ValueError T.x_NoText T.c_NoText T.p_NoText (raises_own T.u_NoText T.t_NoText) (by rfl)))))))))))))
    (pss_cons (ps_if (PW.pt (pw_or (pt_truth (pv 4) (by intro _; rfl)) (pw_or1 (pt_truth (pv 3) (by intro _; rfl))))) (pss_one (ps_raise rfl tk (pmk_own PySem.F.excBase_ValueError T.x_NoText T.c_NoText T.p_NoText (raises_own T.u_NoText T.t_NoText) (by rfl)))) pss_nil)
    (pss_one (ps_ret (pv 2)))))))), (ds_seq (ds_asg (dx_of (de_lst fd_nil)) (dg_name (by rfl)))
    (ds_seq (ds_asg (dx_of (de_lst fd_nil)) (dg_name (by rfl)))
    (ds_seq (ds_asg (dx_of (de_c fun _ => .bl true)) (dg_name (by rfl)))
    (ds_seq (ds_for (di_list (df_of (de_fn E_words_in.len (da_cons de_var da_nil)))) (dg_name (by rfl)) (ds_if (dtx_of (dt_and (dt_tru (df_of de_var)) (dt_test (df_of (de_kin (df_of de_var)))))) (ds_drop (dx_ucall E_open_bracket.len (da_cons de_var (da_cons (de_kix (df_of de_var)) da_nil)))) (ds_if (dtx_of (dt_tru (df_of de_var))) (ds_seq (ds_drop (dx_of (de_append (dm_of (de_fn E_plain_part.len (da_cons de_var (da_cons de_var da_nil)))))))
    (ds_asg (dx_of (de_c fun _ => .bl false)) (dg_name (by rfl)))) (ds_if (dtx_of (dt_test (df_of (de_kin (df_of de_var))))) (ds_seq (ds_drop (dx_ucall E_join_bracket.len (da_cons de_var (da_cons (de_kix (df_of de_var)) da_nil))))
    (ds_asg (dx_of (de_c fun _ => .bl true)) (dg_name (by rfl)))) (ds_if (dtx_of (dt_test (df_of (de_op (df_of de_var) (df_of (de_c fun _ => .str ")")) dc_eq)))) (ds_drop (dx_of (de_append (dm_of (de_tup (fd_cons (df_of (de_fn E_close_bracket.len (da_cons de_var da_nil))) fd_nil)))))) ds_raise)))))
    (ds_seq (ds_if (dtx_of (dt_scal (dt_or (dt_tru (df_of de_var)) (dt_tru (df_of de_var))))) ds_raise ds_next)
    (ds_ret (dx_of de_var)))))))⟩)
  exact h
end KQ
set_option Elab.async false
set_option linter.all false
set_option maxRecDepth 100000
set_option maxHeartbeats 4000000
namespace KQ
open PySem PySem.Spec PyProof.Rows L2 Q
variable [TbS]
theorem ok_saying_from {P : Program} {w : World} {K : PySem.W.Frag} {mg : Str → Option Value} {base : Heap} {Z : Zs} {f : Addr} {fd : FuncData} (T : Txt K mg Z w P) (F : Fun K "saying_from" "saying_from" s_saying_from f fd) : FnG P w K mg base 1 f fd ["parts", "names"] (spD K 2 fn_saying_from) := by
  have h := fn_ok (P := P) (w := w) (mg := mg) (base := base) (k := 0) (g := b_saying_from) (fx := [true, true]) F sc_saying_from rfl (fun cdv A outer s H E gu hr => by
    have tk := takes_of (X := cxOf (L2.CX P w) P w K mg base N_saying_from "saying_from" (defScope s_saying_from) f cdv A outer s H E) rfl rfl rfl rfl
    exact ⟨_, (pss_cons (ps_set (i := 2) sc_saying_from.nd rfl (Or.inl rfl) (pe_lst pa_nil))
    (pss_cons (ps_for (passes_of rfl) rfl (pi_list (pv 0)) (pg_name (i := 3) sc_saying_from.nd rfl (Or.inl rfl)) (pss_cons (ps_set (i := 4) sc_saying_from.nd rfl (Or.inl rfl) (pe_ix ix_seq (pv 3) pe_int (fun _ _ => rfl)))
    (pss_one (ps_if (pt_cmpR (op_eqD (Room.units hr)) (pv 4) pe_str (nomark _)) (pss_one (ps_expr (pe_bm PySem.F.plainAttrs_list PySem.F.slot_list_append PySem.F.type_list_append mt_append (pv 2) (pa_cons (pe_ix ix_seq (pv 1) (pe_ix ix_seq (pv 3) pe_int (fun _ _ => rfl)) (fun _ _ => rfl)) pa_nil)))) (pss_one (ps_if (pt_cmpR op_in_seq (pv 4) (pe_tup (pa_cons pe_str (pa_cons pe_str pa_nil))) (by rfl)) (pss_one (ps_expr (pe_bm PySem.F.plainAttrs_list PySem.F.slot_list_append PySem.F.type_list_append mt_append (pv 2) (pa_cons (pe_tup (pa_cons (pv 4) (pa_cons (pe_bm0 PySem.F.plainAttrs_list PySem.F.slot_list_pop PySem.F.type_list_pop mt_pop (pv 2)) pa_nil))) pa_nil)))) (pss_one (ps_if (pt_cmpR op_in_seq (pv 4) (pe_tup (pa_cons pe_str (pa_cons pe_str pa_nil))) (by rfl)) (pss_cons (ps_set (i := 5) sc_saying_from.nd rfl (Or.inl rfl) (pe_bm0 PySem.F.plainAttrs_list PySem.F.slot_list_pop PySem.F.type_list_pop mt_pop (pv 2)))
    (pss_one (ps_expr (pe_bm PySem.F.plainAttrs_list PySem.F.slot_list_append PySem.F.type_list_append mt_append (pv 2) (pa_cons (pe_tup (pa_cons (pv 4) (pa_cons (pe_bm0 PySem.F.plainAttrs_list PySem.F.slot_list_pop PySem.F.type_list_pop mt_pop (pv 2)) (pa_cons (pv 5) pa_nil)))) pa_nil))))) (pss_one (ps_expr (pe_bm PySem.F.plainAttrs_list PySem.F.slot_list_append PySem.F.type_list_append mt_append (pv 2) (pa_cons (pv 3) pa_nil))))))))))))
    (pss_one (ps_ret (pe_bm0 PySem.F.plainAttrs_list PySem.F.slot_list_pop PySem.F.type_list_pop mt_pop (pv 2)))))), (ds_seq (ds_asg (dx_of (de_lst fd_nil)) (dg_name (by rfl)))
    (ds_seq (ds_for (di_list (df_of de_var)) (dg_name (by rfl)) (ds_seq (ds_asg (dx_of (de_op (df_of de_var) (df_of (de_c fun _ => .int 0)) dc_ix)) (dg_name (by rfl)))
    (ds_if (dtx_of (dt_test (df_of (de_op (df_of de_var) (df_of (de_c fun _ => .str "name")) dc_eq)))) (ds_drop (dx_of (de_append (dm_of (de_op (df_of de_var) (df_of (de_op (df_of de_var) (df_of (de_c fun _ => .int 1)) dc_ix)) dc_ix))))) (ds_if (dtx_of (dt_test (df_of (de_op (df_of de_var) (df_of (de_tup (fd_cons (df_of (de_c fun _ => .str "not")) (fd_cons (df_of (de_c fun _ => .str "again")) fd_nil)))) dc_in)))) (ds_drop (dx_of (de_append (dm_of (de_tup (fd_cons (df_of de_var) (fd_cons (df_of de_pop) fd_nil))))))) (ds_if (dtx_of (dt_test (df_of (de_op (df_of de_var) (df_of (de_tup (fd_cons (df_of (de_c fun _ => .str "then")) (fd_cons (df_of (de_c fun _ => .str "either")) fd_nil)))) dc_in)))) (ds_seq (ds_asg (dx_of de_pop) (dg_name (by rfl)))
    (ds_drop (dx_of (de_append (dm_of (de_tup (fd_cons (df_of de_var) (fd_cons (df_of de_pop) (fd_cons (df_of de_var) fd_nil))))))))) (ds_drop (dx_of (de_append (dm_of de_var)))))))))
    (ds_ret (dx_of de_pop))))⟩)
  exact h
end KQ
set_option Elab.async false
set_option linter.all false
set_option maxRecDepth 100000
set_option maxHeartbeats 4000000
namespace KQ
open PySem PySem.Spec PyProof.Rows L2 Q
variable [TbS]
theorem ok_has_part_form {P : Program} {w : World} {K : PySem.W.Frag} {mg : Str → Option Value} {base : Heap} {Z : Zs} {f : Addr} {fd : FuncData} (T : Txt K mg Z w P) (F : Fun K "has_part_form" "has_part_form" s_has_part_form f fd) (E_is_below : FnE P w K mg base 2 "is_below" ["thing", "most"] fn_is_below) : FnG P w K mg base 3 f fd ["shape", "thing"] (spD K 2 fn_has_part_form) := by
  have h := fn_ok (P := P) (w := w) (mg := mg) (base := base) (k := 2) (g := b_has_part_form) (fx := [true, true]) F sc_has_part_form rfl (fun cdv A outer s H E gu hr => by
    have tk := takes_of (X := cxOf (L2.CX P w) P w K mg base N_has_part_form "has_part_form" (defScope s_has_part_form) f cdv A outer s H E) rfl rfl rfl rfl
    exact ⟨_, (pss_cons (ps_if (PW.pt (pw_or (pt_not (pt_val (pe_callB call_isi (by rfl) T.b_isinstance (by decide +kernel) (pa_cons (pv 1) (pa_cons (pe_bltn (v := .ty "tuple") (by rfl) T.b_tuple (by decide +kernel) rfl) pa_nil))))) (pw_or1 (pt_cmpR (op_eqD (Room.units hr)) (pe_callB call_len (by rfl) T.b_len (by decide +kernel) (pa_cons (pv 1) pa_nil)) pe_int (nomark _))))) (pss_one (ps_ret pe_bl)) pss_nil)
    (pss_cons (ps_set (i := 2) sc_has_part_form.nd rfl (Or.inl rfl) (pe_ix ix_seq (pv 1) pe_int (fun _ _ => rfl)))
    (pss_cons (ps_if (PW.pt (pw_or (pt_not (pt_val (pe_callB call_isi (by rfl) T.b_isinstance (by decide +kernel) (pa_cons (pv 2) (pa_cons (pe_bltn (v := .ty "str") (by rfl) T.b_str (by decide +kernel) rfl) pa_nil))))) (pw_or1 (pt_cmpR (op_neD (Room.units hr)) (pe_kget (by rfl) T.k_LENGTHS T.r_LENGTHS (pv 2) ⟨rfl, rfl, rfl, rfl⟩) (pe_callB call_len (by rfl) T.b_len (by decide +kernel) (pa_cons (pv 1) pa_nil)) (nomark _))))) (pss_one (ps_ret pe_bl)) pss_nil)
    (pss_cons (ps_if (pt_cmpR op_in_seq (pv 2) (pe_glob (v := .ref Z.FIELD_WORDS) (by rfl) T.k_FIELD_WORDS rfl) (by rfl)) (pss_one (ps_ret (pe_and (pe_fnE E_is_below (Room.mono hr (by omega)) gu (by rfl) (fun σ => passNo σ) (pa_cons (pe_ix ix_seq (pv 1) pe_int (fun _ _ => rfl)) (pa_cons (pe_callB call_len (by rfl) T.b_len (by decide +kernel) (pa_cons (pv 0) pa_nil)) pa_nil))) (pe_one (pe_fnE E_is_below (Room.mono hr (by omega)) gu (by rfl) (fun σ => passNo σ) (pa_cons (pe_ix ix_seq (pv 1) pe_int (fun _ _ => rfl)) (pa_cons (pe_ix ix_seq (pv 0) (pe_ix ix_seq (pv 1) pe_int (fun _ _ => rfl)) (fun _ _ => rfl)) pa_nil))))))) pss_nil)
    (pss_one (ps_ret pe_bl)))))), (ds_seq (ds_if (dtx_of (dt_or (dt_not (dt_bl (df_of (de_isi (c := .tuple) (df_of de_var))))) (dt_test (df_of (de_op (df_of (de_with (fd_cons (df_of de_var) fd_nil) dc_len)) (df_of (de_c fun _ => .int 0)) dc_eq))))) (ds_ret (dx_of (de_c fun _ => .bl false))) ds_next)
    (ds_seq (ds_asg (dx_of (de_op (df_of de_var) (df_of (de_c fun _ => .int 0)) dc_ix)) (dg_name (by rfl)))
    (ds_seq (ds_if (dtx_of (dt_or (dt_not (dt_bl (df_of (de_isi (c := .str) (df_of de_var))))) (dt_test (df_of (de_op (df_of (de_un (df_of de_var) (dc_kget fun G x => tab_rp G _ x))) (df_of (de_with (fd_cons (df_of de_var) fd_nil) dc_len)) dc_ne))))) (ds_ret (dx_of (de_c fun _ => .bl false))) ds_next)
    (ds_seq (ds_if (dtx_of (dt_test (df_of (de_op (df_of de_var) (df_of (de_c T.r_FIELD_WORDS)) dc_in)))) (ds_ret (dx_of (de_andV (df_of (de_fn E_is_below.len (da_cons (de_op (df_of de_var) (df_of (de_c fun _ => .int 1)) dc_ix) (da_cons (de_with (fd_cons (df_of de_var) fd_nil) dc_len) da_nil)))) (df_of (de_fn E_is_below.len (da_cons (de_op (df_of de_var) (df_of (de_c fun _ => .int 2)) dc_ix) (da_cons (de_op (df_of de_var) (df_of (de_op (df_of de_var) (df_of (de_c fun _ => .int 1)) dc_ix)) dc_ix) da_nil))))))) ds_next)
    (ds_ret (dx_of (de_c fun _ => .bl true)))))))⟩)
  exact h
end KQ
set_option Elab.async false
set_option linter.all false
set_option maxRecDepth 100000
set_option maxHeartbeats 4000000
namespace KQ
open PySem PySem.Spec PyProof.Rows L2 Q
variable [TbS]
theorem ok_inner_parts {P : Program} {w : World} {K : PySem.W.Frag} {mg : Str → Option Value} {base : Heap} {Z : Zs} {f : Addr} {fd : FuncData} (T : Txt K mg Z w P) (F : Fun K "inner_parts" "inner_parts" s_inner_parts f fd) : FnG P w K mg base 1 f fd ["part"] (spD K 1 fn_inner_parts) := by
  have h := fn_ok (P := P) (w := w) (mg := mg) (base := base) (k := 0) (g := b_inner_parts) (fx := [true]) F sc_inner_parts rfl (fun cdv A outer s H E gu hr => by
    have tk := takes_of (X := cxOf (L2.CX P w) P w K mg base N_inner_parts "inner_parts" (defScope s_inner_parts) f cdv A outer s H E) rfl rfl rfl rfl
    exact ⟨_, (pss_one (ps_ret (pe_ifExp (pt_cmpR op_in_seq (pe_ix ix_seq (pv 0) pe_int (fun _ _ => rfl)) (pe_glob (v := .ref Z.FIELD_WORDS) (by rfl) T.k_FIELD_WORDS rfl) (by rfl)) (pe_tup pa_nil) (pe_slice sl_tupA (pv 0) (po_some pe_int) po_none)))), (ds_ret (dx_of (de_if (dt_test (df_of (de_op (df_of (de_op (df_of de_var) (df_of (de_c fun _ => .int 0)) dc_ix)) (df_of (de_c T.r_FIELD_WORDS)) dc_in))) (de_tup fd_nil) (de_sl dsl_tup (df_of de_var) (dp_at (df_of (de_c fun _ => .int 1))) dp_no))))⟩)
  exact h
end KQ
set_option Elab.async false
set_option linter.all false
set_option maxRecDepth 100000
set_option maxHeartbeats 4000000
namespace KQ
open PySem PySem.Spec PyProof.Rows L2 Q
variable [TbS]
theorem ok_is_made_well {P : Program} {w : World} {K : PySem.W.Frag} {mg : Str → Option Value} {base : Heap} {Z : Zs} {f : Addr} {fd : FuncData} (T : Txt K mg Z w P) (F : Fun K "is_made_well" "is_made_well" s_is_made_well f fd) (E_has_part_form : FnE P w K mg base 3 "has_part_form" ["shape", "thing"] fn_has_part_form) (E_inner_parts : FnE P w K mg base 1 "inner_parts" ["part"] fn_inner_parts) : FnG P w K mg base 4 f fd ["shape", "thing", "as_test"] (spD K 3 fn_is_made_well) := by
  have h := fn_ok (P := P) (w := w) (mg := mg) (base := base) (k := 3) (g := b_is_made_well) (fx := [true, true, true]) F sc_is_made_well rfl (fun cdv A outer s H E gu hr => by
    have tk := takes_of (X := cxOf (L2.CX P w) P w K mg base N_is_made_well "is_made_well" (defScope s_is_made_well) f cdv A outer s H E) rfl rfl rfl rfl
    exact ⟨_, (pss_cons (ps_set (i := 3) sc_is_made_well.nd rfl (Or.inl rfl) pe_int)
    (pss_cons (ps_set (i := 4) sc_is_made_well.nd rfl (Or.inl rfl) (pe_lst (pa_cons (pe_tup (pa_cons (pv 1) (pa_cons (pv 2) pa_nil))) pa_nil)))
    (pss_cons (ps_while (passes_of rfl) (pt_truth (pv 4) (by intro _; rfl)) (pss_cons (ps_asg (pe_bm0 PySem.F.plainAttrs_list PySem.F.slot_list_pop PySem.F.type_list_pop mt_pop (pv 4)) (pg_tup rfl (pgs_cons (pg_name (i := 5) sc_is_made_well.nd rfl (Or.inl rfl)) (pgs_cons (pg_name (i := 6) sc_is_made_well.nd rfl (Or.inl rfl)) pgs_nil))))
    (pss_cons (ps_if (pt_not (pt_val (pe_fnE E_has_part_form (Room.mono hr (by omega)) gu (by rfl) (fun σ => passNo σ) (pa_cons (pv 0) (pa_cons (pv 5) pa_nil))))) (pss_one (ps_ret pe_bl)) pss_nil)
    (pss_cons (ps_set (i := 7) sc_is_made_well.nd rfl (Or.inl rfl) (pe_ix ix_seq (pv 5) pe_int (fun _ _ => rfl)))
    (pss_cons (ps_if (PW.pt (pw_and (pt_truth (pv 6) (by intro _; rfl)) (pw_and1 (pt_cmpR op_notIn_seq (pv 7) (pe_glob (v := .ref Z.TEST_WORDS) (by rfl) T.k_TEST_WORDS rfl) (by rfl))))) (pss_one (ps_ret pe_bl)) pss_nil)
    (pss_cons (ps_if (pt_cmpR (op_eqD (Room.units hr)) (pv 7) pe_str (nomark _)) (pss_one (ps_aug (i := 3) sc_is_made_well.nd rfl (Or.inl rfl) pe_int iop_add)) pss_nil)
    (pss_cons (ps_if (pt_cmpR op_gt (pv 3) (pe_glob (v := .int (5)) (by rfl) T.k_MOST_NOTES ⟨_, rfl⟩) (nomark _)) (pss_one (ps_ret pe_bl)) pss_nil)
    (pss_one (ps_for (passes_of rfl) rfl (pi_tup (pe_fnE E_inner_parts (Room.mono hr (by omega)) gu (by rfl) (fun σ => passNo σ) (pa_cons (pv 5) pa_nil))) (pg_name (i := 8) sc_is_made_well.nd rfl (Or.inl rfl)) (pss_one (ps_expr (pe_bm PySem.F.plainAttrs_list PySem.F.slot_list_append PySem.F.type_list_append mt_append (pv 4) (pa_cons (pe_tup (pa_cons (pv 8) (pa_cons (pe_or (pv 6) (pe_one (pe_cmpR (op_eqD (Room.units hr)) (pv 7) pe_str (nomark _)))) pa_nil))) pa_nil)))))))))))))
    (pss_one (ps_ret pe_bl))))), (ds_seq (ds_asg (dx_of (de_c fun _ => .int 0)) (dg_name (by rfl)))
    (ds_seq (ds_asg (dx_of (de_lst (fd_cons (df_of (de_tup (fd_cons (df_of de_var) (fd_cons (df_of de_var) fd_nil)))) fd_nil))) (dg_name (by rfl)))
    (ds_seq (ds_while (dtx_of (dt_scal (dt_tru (df_of de_var)))) (ds_seq (ds_asg (dx_of de_pop) (dg_tup (dgs_cons (dg_name (by rfl)) (dgs_cons (dg_name (by rfl)) dgs_nil))))
    (ds_seq (ds_if (dtx_of (dt_not (dt_bl (df_of (de_fn E_has_part_form.len (da_cons de_var (da_cons de_var da_nil))))))) (ds_ret (dx_of (de_c fun _ => .bl false))) ds_next)
    (ds_seq (ds_asg (dx_of (de_op (df_of de_var) (df_of (de_c fun _ => .int 0)) dc_ix)) (dg_name (by rfl)))
    (ds_seq (ds_if (dtx_of (dt_and (dt_tru (df_of de_var)) (dt_test (df_of (de_op (df_of de_var) (df_of (de_c T.r_TEST_WORDS)) dc_in))))) (ds_ret (dx_of (de_c fun _ => .bl false))) ds_next)
    (ds_seq (ds_if (dtx_of (dt_test (df_of (de_op (df_of de_var) (df_of (de_c fun _ => .str "note")) dc_eq)))) (ds_aug (by rfl) (df_of (de_c fun _ => .int 1)) dc_add) ds_next)
    (ds_seq (ds_if (dtx_of (dt_test (df_of (de_op (df_of de_var) (df_of (de_c fun _ => .int (5))) dc_gt)))) (ds_ret (dx_of (de_c fun _ => .bl false))) ds_next)
    (ds_for (di_tup (df_of (de_fn E_inner_parts.len (da_cons de_var da_nil)))) (dg_name (by rfl)) (ds_drop (dx_of (de_append (dm_of (de_tup (fd_cons (df_of de_var) (fd_cons (df_of (de_orV (df_of de_var) (df_of (de_op (df_of de_var) (df_of (de_c fun _ => .str "not")) dc_eq)))) fd_nil)))))))))))))))
    (ds_ret (dx_of (de_c fun _ => .bl true))))))⟩)
  exact h
end KQ
set_option Elab.async false
set_option linter.all false
set_option maxRecDepth 100000
set_option maxHeartbeats 4000000
namespace KQ
open PySem PySem.Spec PyProof.Rows L2 Q
variable [TbS]
theorem ok_is_saying {P : Program} {w : World} {K : PySem.W.Frag} {mg : Str → Option Value} {base : Heap} {Z : Zs} {f : Addr} {fd : FuncData} (T : Txt K mg Z w P) (F : Fun K "is_saying" "is_saying" s_is_saying f fd) (E_check_shape : FnE P w K mg base 3 "check_shape" ["shape"] (fn_check_shape Z)) (E_is_made_well : FnE P w K mg base 4 "is_made_well" ["shape", "thing", "as_test"] fn_is_made_well) : FnG P w K mg base 5 f fd ["shape", "thing"] (spD K 2 (fn_is_saying Z)) := by
  have h := fn_ok (P := P) (w := w) (mg := mg) (base := base) (k := 4) (g := b_is_saying Z) (fx := [true, true]) F sc_is_saying rfl (fun cdv A outer s H E gu hr => by
    have tk := takes_of (X := cxOf (L2.CX P w) P w K mg base N_is_saying "is_saying" (defScope s_is_saying) f cdv A outer s H E) rfl rfl rfl rfl
    exact ⟨_, (pss_cons (ps_expr (pe_fnE (E := WE _) E_check_shape (Room.mono hr (by omega)) gu (by rfl) (fun σ => passAt tk σ) (pa_cons (pv 0) pa_nil)))
    (pss_one (ps_ret (pe_fnE E_is_made_well (Room.mono hr (by omega)) gu (by rfl) (fun σ => passNo σ) (pa_cons (pv 0) (pa_cons (pv 1) (pa_cons pe_bl pa_nil))))))), (ds_seq (ds_drop (dx_ucall E_check_shape.len (da_cons de_var da_nil)))
    (ds_ret (dx_of (de_fn E_is_made_well.len (da_cons de_var (da_cons de_var (da_cons (de_c fun _ => .bl false) da_nil)))))))⟩)
  exact h
end KQ
set_option Elab.async false
set_option linter.all false
set_option maxRecDepth 100000
set_option maxHeartbeats 4000000
namespace KQ
open PySem PySem.Spec PyProof.Rows L2 Q
variable [TbS]
theorem ok_check_saying {P : Program} {w : World} {K : PySem.W.Frag} {mg : Str → Option Value} {base : Heap} {Z : Zs} {f : Addr} {fd : FuncData} (T : Txt K mg Z w P) (F : Fun K "check_saying" "check_saying" s_check_saying f fd) (E_is_saying : FnE P w K mg base 5 "is_saying" ["shape", "thing"] (fn_is_saying Z)) : FnG P w K mg base 6 f fd ["shape", "saying"] (spD K 2 (fn_check_saying Z)) := by
  have h := fn_ok (P := P) (w := w) (mg := mg) (base := base) (k := 5) (g := b_check_saying Z) (fx := [true, true]) F sc_check_saying rfl (fun cdv A outer s H E gu hr => by
    have tk := takes_of (X := cxOf (L2.CX P w) P w K mg base N_check_saying "check_saying" (defScope s_check_saying) f cdv A outer s H E) rfl rfl rfl rfl
    exact ⟨_, (pss_one (ps_if (pt_not (pt_val (pe_fnE (E := WE _) E_is_saying (Room.mono hr (by omega)) gu (by rfl) (fun σ => passAt tk σ) (pa_cons (pv 0) (pa_cons (pv 1) pa_nil))))) (pss_one (ps_raise rfl tk (pmk_own PySem.F.excBase_ValueError T.x_NoSaying T.c_NoSaying T.p_NoSaying (raises_own T.u_NoSaying T.t_NoSaying) (by rfl)))) pss_nil)), (ds_if (dtx_not (dtx_bl (dx_ucall E_is_saying.len (da_cons de_var (da_cons de_var da_nil))))) ds_raise ds_next)⟩)
  exact h
end KQ
set_option Elab.async false
set_option linter.all false
set_option maxRecDepth 100000
set_option maxHeartbeats 4000000
namespace KQ
open PySem PySem.Spec PyProof.Rows L2 Q
variable [TbS]
theorem ok_pieces_of {P : Program} {w : World} {K : PySem.W.Frag} {mg : Str → Option Value} {base : Heap} {Z : Zs} {f : Addr} {fd : FuncData} (T : Txt K mg Z w P) (F : Fun K "pieces_of" "pieces_of" s_pieces_of f fd) : FnG P w K mg base 1 f fd ["part"] (spD K 1 fn_pieces_of) := by
  have h := fn_ok (P := P) (w := w) (mg := mg) (base := base) (k := 0) (g := b_pieces_of) (fx := [true]) F sc_pieces_of rfl (fun cdv A outer s H E gu hr => by
    have tk := takes_of (X := cxOf (L2.CX P w) P w K mg base N_pieces_of "pieces_of" (defScope s_pieces_of) f cdv A outer s H E) rfl rfl rfl rfl
    exact ⟨_, (pss_cons (ps_set (i := 1) sc_pieces_of.nd rfl (Or.inl rfl) (pe_ix ix_seq (pv 0) pe_int (fun _ _ => rfl)))
    (pss_cons (ps_if (pt_cmpR (op_eqD (Room.units hr)) (pv 1) pe_str (nomark _)) (pss_one (ps_ret (pe_lst (pa_cons (pe_joined (.cons (pe_fmt (pe_ix ix_seq (pe_glob (v := .str "abc") (by rfl) T.k_FIELD_SIGNS ⟨_, rfl⟩) (pe_ix ix_seq (pv 0) pe_int (fun _ _ => rfl)) (fun _ _ => rfl))) (.cons pe_str (.cons (pe_fmt (pe_ix ix_seq (pv 0) pe_int (fun _ _ => rfl))) .nil)))) pa_nil)))) pss_nil)
    (pss_cons (ps_if (pt_cmpR (op_eqD (Room.units hr)) (pv 1) pe_str (nomark _)) (pss_one (ps_ret (pe_lst (pa_cons (pe_joined (.cons (pe_fmt (pe_ix ix_seq (pe_glob (v := .str "abc") (by rfl) T.k_FIELD_SIGNS ⟨_, rfl⟩) (pe_ix ix_seq (pv 0) pe_int (fun _ _ => rfl)) (fun _ _ => rfl))) (.cons pe_str (.cons (pe_fmt (pe_ix ix_seq (pv 0) pe_int (fun _ _ => rfl))) .nil)))) pa_nil)))) pss_nil)
    (pss_cons (ps_if (pt_cmpR (op_eqD (Room.units hr)) (pv 1) pe_str (nomark _)) (pss_one (ps_ret (pe_lst (pa_cons pe_str (pa_cons (pe_ix ix_seq (pv 0) pe_int (fun _ _ => rfl)) (pa_cons pe_str (pa_cons (pe_ix ix_seq (pv 0) pe_int (fun _ _ => rfl)) (pa_cons pe_str pa_nil)))))))) pss_nil)
    (pss_cons (ps_if (pt_cmpR (op_eqD (Room.units hr)) (pv 1) pe_str (nomark _)) (pss_one (ps_ret (pe_lst (pa_cons pe_str (pa_cons (pe_ix ix_seq (pv 0) pe_int (fun _ _ => rfl)) (pa_cons pe_str (pa_cons (pe_ix ix_seq (pv 0) pe_int (fun _ _ => rfl)) (pa_cons pe_str pa_nil)))))))) pss_nil)
    (pss_cons (ps_if (pt_cmpR op_in_seq (pv 1) (pe_tup (pa_cons pe_str (pa_cons pe_str pa_nil))) (by rfl)) (pss_one (ps_ret (pe_lst (pa_cons (pv 1) (pa_cons pe_str (pa_cons (pe_ix ix_seq (pv 0) pe_int (fun _ _ => rfl)) (pa_cons pe_str pa_nil))))))) pss_nil)
    (pss_one (ps_ret (pe_lst (pa_cons (pv 1) pa_nil)))))))))), (ds_seq (ds_asg (dx_of (de_op (df_of de_var) (df_of (de_c fun _ => .int 0)) dc_ix)) (dg_name (by rfl)))
    (ds_seq (ds_if (dtx_of (dt_test (df_of (de_op (df_of de_var) (df_of (de_c fun _ => .str "is")) dc_eq)))) (ds_ret (dx_of (de_lst (fd_cons (df_of (de_fs (.cons (sf_f (df_of (de_op (df_of (de_c fun _ => .str "abc")) (df_of (de_op (df_of de_var) (df_of (de_c fun _ => .int 1)) dc_ix)) dc_ixS))) (.cons sf_c (.cons (sf_f (df_of (de_op (df_of de_var) (df_of (de_c fun _ => .int 2)) dc_ix))) .nil))))) fd_nil)))) ds_next)
    (ds_seq (ds_if (dtx_of (dt_test (df_of (de_op (df_of de_var) (df_of (de_c fun _ => .str "put")) dc_eq)))) (ds_ret (dx_of (de_lst (fd_cons (df_of (de_fs (.cons (sf_f (df_of (de_op (df_of (de_c fun _ => .str "abc")) (df_of (de_op (df_of de_var) (df_of (de_c fun _ => .int 1)) dc_ix)) dc_ixS))) (.cons sf_c (.cons (sf_f (df_of (de_op (df_of de_var) (df_of (de_c fun _ => .int 2)) dc_ix))) .nil))))) fd_nil)))) ds_next)
    (ds_seq (ds_if (dtx_of (dt_test (df_of (de_op (df_of de_var) (df_of (de_c fun _ => .str "then")) dc_eq)))) (ds_ret (dx_of (de_lst (fd_cons (df_of (de_c fun _ => .str "(")) (fd_cons (df_of (de_op (df_of de_var) (df_of (de_c fun _ => .int 1)) dc_ix)) (fd_cons (df_of (de_c fun _ => .str ";")) (fd_cons (df_of (de_op (df_of de_var) (df_of (de_c fun _ => .int 2)) dc_ix)) (fd_cons (df_of (de_c fun _ => .str ")")) fd_nil)))))))) ds_next)
    (ds_seq (ds_if (dtx_of (dt_test (df_of (de_op (df_of de_var) (df_of (de_c fun _ => .str "either")) dc_eq)))) (ds_ret (dx_of (de_lst (fd_cons (df_of (de_c fun _ => .str "(")) (fd_cons (df_of (de_op (df_of de_var) (df_of (de_c fun _ => .int 1)) dc_ix)) (fd_cons (df_of (de_c fun _ => .str "|")) (fd_cons (df_of (de_op (df_of de_var) (df_of (de_c fun _ => .int 2)) dc_ix)) (fd_cons (df_of (de_c fun _ => .str ")")) fd_nil)))))))) ds_next)
    (ds_seq (ds_if (dtx_of (dt_test (df_of (de_op (df_of de_var) (df_of (de_tup (fd_cons (df_of (de_c fun _ => .str "not")) (fd_cons (df_of (de_c fun _ => .str "again")) fd_nil)))) dc_in)))) (ds_ret (dx_of (de_lstO (md_cons (dm_of de_move) (md_cons (dm_of (de_c fun _ => .str "(")) (md_cons (dm_of (de_op (df_of de_var) (df_of (de_c fun _ => .int 1)) dc_ix)) (md_cons (dm_of (de_c fun _ => .str ")")) md_nil))))))) ds_next)
    (ds_ret (dx_of (de_lstO (md_cons (dm_of de_move) md_nil))))))))))⟩)
  exact h
end KQ
set_option Elab.async false
set_option linter.all false
set_option maxRecDepth 100000
set_option maxHeartbeats 4000000
namespace KQ
open PySem PySem.Spec PyProof.Rows L2 Q
variable [TbS]
theorem ok_shown_saying {P : Program} {w : World} {K : PySem.W.Frag} {mg : Str → Option Value} {base : Heap} {Z : Zs} {f : Addr} {fd : FuncData} (T : Txt K mg Z w P) (F : Fun K "shown_saying" "shown_saying" s_shown_saying f fd) (E_check_saying : FnE P w K mg base 6 "check_saying" ["shape", "saying"] (fn_check_saying Z)) (E_pieces_of : FnE P w K mg base 1 "pieces_of" ["part"] fn_pieces_of) : FnG P w K mg base 7 f fd ["shape", "saying"] (spD K 2 (fn_shown_saying Z)) := by
  have h := fn_ok (P := P) (w := w) (mg := mg) (base := base) (k := 6) (g := b_shown_saying Z) (fx := [true, true]) F sc_shown_saying rfl (fun cdv A outer s H E gu hr => by
    have tk := takes_of (X := cxOf (L2.CX P w) P w K mg base N_shown_saying "shown_saying" (defScope s_shown_saying) f cdv A outer s H E) rfl rfl rfl rfl
    exact ⟨_, (pss_cons (ps_expr (pe_fnE (E := WE _) E_check_saying (Room.mono hr (by omega)) gu (by rfl) (fun σ => passAt tk σ) (pa_cons (pv 0) (pa_cons (pv 1) pa_nil))))
    (pss_cons (ps_set (i := 2) sc_shown_saying.nd rfl (Or.inl rfl) (pe_lst pa_nil))
    (pss_cons (ps_set (i := 3) sc_shown_saying.nd rfl (Or.inl rfl) (pe_lst (pa_cons (pv 1) pa_nil)))
    (pss_cons (ps_while (passes_of rfl) (pt_truth (pv 3) (by intro _; rfl)) (pss_cons (ps_set (i := 4) sc_shown_saying.nd rfl (Or.inl rfl) (pe_bm0 PySem.F.plainAttrs_list PySem.F.slot_list_pop PySem.F.type_list_pop mt_pop (pv 3)))
    (pss_one (ps_if (pt_val (pe_callB call_isi (by rfl) T.b_isinstance (by decide +kernel) (pa_cons (pv 4) (pa_cons (pe_bltn (v := .ty "str") (by rfl) T.b_str (by decide +kernel) rfl) pa_nil)))) (pss_one (ps_expr (pe_bm PySem.F.plainAttrs_list PySem.F.slot_list_append PySem.F.type_list_append mt_append (pv 2) (pa_cons (pv 4) pa_nil)))) (pss_one (ps_expr (pe_bm PySem.F.plainAttrs_list PySem.F.slot_list_extend PySem.F.type_list_extend mt_extend (pv 3) (pa_cons (pe_revLi (pe_fnE E_pieces_of (Room.mono hr (by omega)) gu (by rfl) (fun σ => passNo σ) (pa_cons (pv 4) pa_nil))) pa_nil))))))))
    (pss_one (ps_ret (pe_join pe_str (pv 2)))))))), (ds_seq (ds_drop (dx_ucall E_check_saying.len (da_cons de_var (da_cons de_var da_nil))))
    (ds_seq (ds_asg (dx_of (de_lst fd_nil)) (dg_name (by rfl)))
    (ds_seq (ds_asg (dx_of (de_lst (fd_cons (df_of de_var) fd_nil))) (dg_name (by rfl)))
    (ds_seq (ds_while (dtx_of (dt_scal (dt_tru (df_of de_var)))) (ds_seq (ds_asg (dx_of de_pop) (dg_name (by rfl)))
    (ds_if (dtx_of (dt_bl (df_of (de_isi (c := .str) (df_of de_var))))) (ds_drop (dx_of (de_append (dm_of de_var)))) (ds_drop (dx_of (de_extendL (dm_of (de_un (df_of (de_fn E_pieces_of.len (da_cons de_var da_nil))) dc_revL))))))))
    (ds_ret (dx_of (de_m1 (df_of (de_c fun _ => .str "")) (df_of de_var) dc_join)))))))⟩)
  exact h
end KQ
set_option Elab.async false
set_option linter.all false
set_option maxRecDepth 100000
set_option maxHeartbeats 4000000
namespace KQ
open PySem PySem.Spec PyProof.Rows L2 Q
variable [TbS]
theorem ok_read_saying {P : Program} {w : World} {K : PySem.W.Frag} {mg : Str → Option Value} {base : Heap} {Z : Zs} {f : Addr} {fd : FuncData} (T : Txt K mg Z w P) (F : Fun K "read_saying" "read_saying" s_read_saying f fd) (E_check_shape : FnE P w K mg base 3 "check_shape" ["shape"] (fn_check_shape Z)) (E_parts_in : FnE P w K mg base 4 "parts_in" ["text", "with_names"] (fn_parts_in Z)) (E_saying_from : FnE P w K mg base 1 "saying_from" ["parts", "names"] fn_saying_from) (E_is_saying : FnE P w K mg base 5 "is_saying" ["shape", "thing"] (fn_is_saying Z)) : FnG P w K mg base 6 f fd ["shape", "text"] (spD K 2 (fn_read_saying Z)) := by
  have h := fn_ok (P := P) (w := w) (mg := mg) (base := base) (k := 5) (g := b_read_saying Z) (fx := [true, true]) F sc_read_saying rfl (fun cdv A outer s H E gu hr => by
    have tk := takes_of (X := cxOf (L2.CX P w) P w K mg base N_read_saying "read_saying" (defScope s_read_saying) f cdv A outer s H E) rfl rfl rfl rfl
    exact ⟨_, (pss_cons (ps_expr (pe_fnE (E := WE _) E_check_shape (Room.mono hr (by omega)) gu (by rfl) (fun σ => passAt tk σ) (pa_cons (pv 0) pa_nil)))
    (pss_cons (ps_if (pt_not (pt_val (pe_callB call_isi (by rfl) T.b_isinstance (by decide +kernel) (pa_cons (pv 1) (pa_cons (pe_bltn (v := .ty "str") (by rfl) T.b_str (by decide +kernel) rfl) pa_nil))))) (pss_one (ps_raise rfl tk (pmk_own PySem.F.excBase_ValueError T.x_NoText T.c_NoText T.p_NoText (raises_own T.u_NoText T.t_NoText) (by rfl)))) pss_nil)
    (pss_cons (ps_set (i := 2) sc_read_saying.nd rfl (Or.inl rfl) (pe_fnE E_saying_from (Room.mono hr (by omega)) gu (by rfl) (fun σ => passNo σ) (pa_cons (pe_fnE E_parts_in (Room.mono hr (by omega)) gu (by rfl) (fun σ => passNo σ) (pa_cons (pv 1) (pa_cons pe_bl pa_nil))) (pa_cons (pe_wnew T.hk) pa_nil))))
    (pss_cons (ps_if (pt_not (pt_val (pe_fnE (E := WE _) E_is_saying (Room.mono hr (by omega)) gu (by rfl) (fun σ => passAt tk σ) (pa_cons (pv 0) (pa_cons (pv 2) pa_nil))))) (pss_one (ps_raise rfl tk (pmk_own PySem.F.excBase_ValueError T.x_NoText T.c_NoText T.p_NoText (raises_own T.u_NoText T.t_NoText) (by rfl)))) pss_nil)
    (pss_one (ps_ret (pv 2))))))), (ds_seq (ds_drop (dx_ucall E_check_shape.len (da_cons de_var da_nil)))
    (ds_seq (ds_if (dtx_of (dt_not (dt_bl (df_of (de_isi (c := .str) (df_of de_var)))))) ds_raise ds_next)
    (ds_seq (ds_asg (dx_of (de_fn E_saying_from.len (da_cons (de_fn E_parts_in.len (da_cons de_var (da_cons (de_c fun _ => .bl false) da_nil))) (da_cons de_newK da_nil)))) (dg_name (by rfl)))
    (ds_seq (ds_if (dtx_not (dtx_bl (dx_ucall E_is_saying.len (da_cons de_var (da_cons de_var da_nil))))) ds_raise ds_next)
    (ds_ret (dx_of de_var))))))⟩)
  exact h
end KQ
set_option Elab.async false
set_option linter.all false
set_option maxRecDepth 100000
set_option maxHeartbeats 4000000
namespace KQ
open PySem PySem.Spec PyProof.Rows L2 Q
variable [TbS]
theorem ok__law_mixed {P : Program} {w : World} {K : PySem.W.Frag} {mg : Str → Option Value} {base : Heap} {Z : Zs} {f : Addr} {fd : FuncData} (T : Txt K mg Z w P) (F : Fun K "_law_mixed" "_law_mixed" s__law_mixed f fd) : FnG P w K mg base 1 f fd ["_law_cell_here", "_law_k"] (spD K 2 fn__law_mixed) := by
  have h := fn_ok (P := P) (w := w) (mg := mg) (base := base) (k := 0) (g := b__law_mixed) (fx := [true, true]) F sc__law_mixed rfl (fun cdv A outer s H E gu hr => by
    have tk := takes_of (X := cxOf (L2.CX P w) P w K mg base N__law_mixed "_law_mixed" (defScope s__law_mixed) f cdv A outer s H E) rfl rfl rfl rfl
    exact ⟨_, (pss_cons (ps_set (i := 2) sc__law_mixed.nd rfl (Or.inl rfl) (pe_op op_mod (pe_op op_add (pe_op op_add (pe_op op_mulW (pe_op op_mod (pv 0) pe_int) pe_int) (pe_op op_mulW (pv 1) pe_int)) pe_int) pe_int))
    (pss_cons (ps_set (i := 2) sc__law_mixed.nd rfl (Or.inl rfl) (pe_op op_mod (pe_op op_mulW (pv 2) (pv 2)) pe_int))
    (pss_one (ps_ret (pe_op op_mod (pe_op op_mulW (pv 2) (pe_op op_add (pv 2) pe_int)) pe_int))))), (ds_seq (ds_asg (dx_of (de_op (df_of (de_op (df_of (de_op (df_of (de_op (df_of (de_op (df_of de_var) (df_of (de_c fun _ => .int 2147483647)) dc_mod)) (df_of (de_c fun _ => .int 48271)) dc_mul)) (df_of (de_op (df_of de_var) (df_of (de_c fun _ => .int 69621)) dc_mul)) dc_add)) (df_of (de_c fun _ => .int 1048583)) dc_add)) (df_of (de_c fun _ => .int 2147483629)) dc_mod)) (dg_name (by rfl)))
    (ds_seq (ds_asg (dx_of (de_op (df_of (de_op (df_of de_var) (df_of de_var) dc_mul)) (df_of (de_c fun _ => .int 2147483587)) dc_mod)) (dg_name (by rfl)))
    (ds_ret (dx_of (de_op (df_of (de_op (df_of de_var) (df_of (de_op (df_of de_var) (df_of (de_c fun _ => .int 2)) dc_add)) dc_mul)) (df_of (de_c fun _ => .int 2147483579)) dc_mod)))))⟩)
  exact h
end KQ
set_option Elab.async false
set_option linter.all false
set_option maxRecDepth 100000
set_option maxHeartbeats 4000000
namespace KQ
open PySem PySem.Spec PyProof.Rows L2 Q
variable [TbS]
theorem ok__law_cell {P : Program} {w : World} {K : PySem.W.Frag} {mg : Str → Option Value} {base : Heap} {Z : Zs} {f : Addr} {fd : FuncData} (T : Txt K mg Z w P) (F : Fun K "_law_cell" "_law_cell" s__law_cell f fd) (E__law_mixed : FnE P w K mg base 1 "_law_mixed" ["_law_cell_here", "_law_k"] fn__law_mixed) : FnG P w K mg base 2 f fd ["_law_script", "_law_k"] (spD K 2 fn__law_cell) := by
  have h := fn_ok (P := P) (w := w) (mg := mg) (base := base) (k := 1) (g := b__law_cell) (fx := [true, true]) F sc__law_cell rfl (fun cdv A outer s H E gu hr => by
    have tk := takes_of (X := cxOf (L2.CX P w) P w K mg base N__law_cell "_law_cell" (defScope s__law_cell) f cdv A outer s H E) rfl rfl rfl rfl
    exact ⟨_, (pss_cons (ps_set (i := 2) sc__law_cell.nd rfl (Or.inl rfl) pe_int)
    (pss_cons (ps_if (pt_cmpR op_lt (pv 1) (pe_callB call_len (by rfl) T.b_len (by decide +kernel) (pa_cons (pv 0) pa_nil)) (nomark _)) (pss_one (ps_set (i := 2) sc__law_cell.nd rfl (Or.inl rfl) (pe_ix ix_seq (pv 0) (pv 1) (fun _ _ => rfl)))) pss_nil)
    (pss_cons (ps_if (pt_cmpR op_ge (pv 2) (pe_op op_pow pe_int pe_int) (nomark _)) (pss_one (ps_ret (pe_op op_mod (pe_op op_sub (pv 2) (pe_op op_pow pe_int pe_int)) (pe_op op_mulW (pe_op op_mulW (pe_op op_mulW (pe_op op_pow pe_int pe_int) (pe_op op_pow pe_int pe_int)) (pe_op op_pow pe_int pe_int)) (pe_op op_pow pe_int pe_int))))) pss_nil)
    (pss_cons (ps_set (i := 3) sc__law_cell.nd rfl (Or.inl rfl) pe_int)
    (pss_cons (ps_for (passes_of rfl) rfl (pi_range1 (by rfl) T.b_range (pa_cons pe_int pa_nil)) (pg_name (i := 4) sc__law_cell.nd rfl (Or.inl rfl)) (pss_one (ps_set (i := 3) sc__law_cell.nd rfl (Or.inl rfl) (pe_op op_add (pe_op op_mulW (pv 3) pe_int) (pe_fnE E__law_mixed (Room.mono hr (by omega)) gu (by rfl) (fun σ => passNo σ) (pa_cons (pv 2) (pa_cons (pe_op op_add (pe_op op_add (pe_op op_mulW pe_int (pv 1)) (pe_op op_mulW pe_int (pv 4))) (pe_op op_mulW (pv 4) (pv 4))) pa_nil)))))))
    (pss_one (ps_ret (pv 3)))))))), (ds_seq (ds_asg (dx_of (de_c fun _ => .int 0)) (dg_name (by rfl)))
    (ds_seq (ds_if (dtx_of (dt_test (df_of (de_op (df_of de_var) (df_of (de_with (fd_cons (df_of de_var) fd_nil) dc_len)) dc_lt)))) (ds_asg (dx_of (de_op (df_of de_var) (df_of de_var) dc_ix)) (dg_name (by rfl))) ds_next)
    (ds_seq (ds_if (dtx_of (dt_test (df_of (de_op (df_of de_var) (df_of (de_op (df_of (de_c fun _ => .int 10)) (df_of (de_c fun _ => .int 18)) dc_pow)) dc_ge)))) (ds_ret (dx_of (de_op (df_of (de_op (df_of de_var) (df_of (de_op (df_of (de_c fun _ => .int 10)) (df_of (de_c fun _ => .int 18)) dc_pow)) dc_sub)) (df_of (de_op (df_of (de_op (df_of (de_op (df_of (de_op (df_of (de_c fun _ => .int 10)) (df_of (de_c fun _ => .int 60)) dc_pow)) (df_of (de_op (df_of (de_c fun _ => .int 10)) (df_of (de_c fun _ => .int 60)) dc_pow)) dc_mul)) (df_of (de_op (df_of (de_c fun _ => .int 10)) (df_of (de_c fun _ => .int 60)) dc_pow)) dc_mul)) (df_of (de_op (df_of (de_c fun _ => .int 10)) (df_of (de_c fun _ => .int 60)) dc_pow)) dc_mul)) dc_mod))) ds_next)
    (ds_seq (ds_asg (dx_of (de_c fun _ => .int 0)) (dg_name (by rfl)))
    (ds_seq (ds_for (di_range1 (fd_cons (df_of (de_c fun _ => .int 24)) fd_nil)) (dg_name (by rfl)) (ds_asg (dx_of (de_op (df_of (de_op (df_of de_var) (df_of (de_c fun _ => .int 2147483579)) dc_mul)) (df_of (de_fn E__law_mixed.len (da_cons de_var (da_cons (de_op (df_of (de_op (df_of (de_op (df_of (de_c fun _ => .int 7)) (df_of de_var) dc_mul)) (df_of (de_op (df_of (de_c fun _ => .int 100)) (df_of de_var) dc_mul)) dc_add)) (df_of (de_op (df_of de_var) (df_of de_var) dc_mul)) dc_add) da_nil)))) dc_add)) (dg_name (by rfl))))
    (ds_ret (dx_of de_var)))))))⟩)
  exact h
end KQ
set_option Elab.async false
set_option linter.all false
set_option maxRecDepth 100000
set_option maxHeartbeats 4000000
namespace KQ
open PySem PySem.Spec PyProof.Rows L2 Q
variable [TbS]
theorem ok__law_take {P : Program} {w : World} {K : PySem.W.Frag} {mg : Str → Option Value} {base : Heap} {Z : Zs} {f : Addr} {fd : FuncData} (T : Txt K mg Z w P) (F : Fun K "_law_take" "_law_take" s__law_take f fd) : FnG P w K mg base 1 f fd ["_law_pile", "_law_size"] (spD K 2 fn__law_take) := by
  have h := fn_ok (P := P) (w := w) (mg := mg) (base := base) (k := 0) (g := b__law_take) (fx := [true, true]) F sc__law_take rfl (fun cdv A outer s H E gu hr => by
    have tk := takes_of (X := cxOf (L2.CX P w) P w K mg base N__law_take "_law_take" (defScope s__law_take) f cdv A outer s H E) rfl rfl rfl rfl
    exact ⟨_, (pss_cons (ps_set (i := 2) sc__law_take.nd rfl (Or.inl rfl) (pe_op op_mod (pe_ix ix_seq (pv 0) pe_int (fun _ _ => rfl)) (pv 1)))
    (pss_cons (ps_asg (pe_op op_fdivW (pe_ix ix_seq (pv 0) pe_int (fun _ _ => rfl)) (pv 1)) (pg_sub (pv 0) pe_int set_list))
    (pss_one (ps_ret (pv 2))))), (ds_seq (ds_asg (dx_of (de_op (df_of (de_ixO (df_of (de_c fun _ => .int 0)))) (df_of de_var) dc_mod)) (dg_name (by rfl)))
    (ds_seq (ds_asg (dx_of (de_op (df_of (de_ixO (df_of (de_c fun _ => .int 0)))) (df_of de_var) dc_div)) (dg_ix (df_of (de_c fun _ => .int 0))))
    (ds_ret (dx_of de_var))))⟩)
  exact h
end KQ
set_option Elab.async false
set_option linter.all false
set_option maxRecDepth 100000
set_option maxHeartbeats 4000000
namespace KQ
open PySem PySem.Spec PyProof.Rows L2 Q
variable [TbS]
theorem ok__law_shape {P : Program} {w : World} {K : PySem.W.Frag} {mg : Str → Option Value} {base : Heap} {Z : Zs} {f : Addr} {fd : FuncData} (T : Txt K mg Z w P) (F : Fun K "_law_shape" "_law_shape" s__law_shape f fd) (E__law_take : FnE P w K mg base 1 "_law_take" ["_law_pile", "_law_size"] fn__law_take) : FnG P w K mg base 2 f fd ["_law_pile"] (spD K 1 fn__law_shape) := by
  have h := fn_ok (P := P) (w := w) (mg := mg) (base := base) (k := 1) (g := b__law_shape) (fx := [true]) F sc__law_shape rfl (fun cdv A outer s H E gu hr => by
    have tk := takes_of (X := cxOf (L2.CX P w) P w K mg base N__law_shape "_law_shape" (defScope s__law_shape) f cdv A outer s H E) rfl rfl rfl rfl
    exact ⟨_, (pss_cons (ps_set (i := 1) sc__law_shape.nd rfl (Or.inl rfl) (pe_lst (pa_cons (pe_tup (pa_cons pe_int (pa_cons pe_int pa_nil))) (pa_cons (pe_tup (pa_cons pe_int pa_nil)) (pa_cons (pe_tup (pa_cons pe_int (pa_cons pe_int pa_nil))) (pa_cons (pe_tup (pa_cons pe_int (pa_cons pe_int pa_nil))) (pa_cons (pe_tup (pa_cons pe_int (pa_cons pe_int (pa_cons pe_int pa_nil)))) (pa_cons (pe_tup (pa_cons pe_int (pa_cons pe_int pa_nil))) (pa_cons (pe_tup (pa_cons pe_int (pa_cons pe_int pa_nil))) (pa_cons (pe_tup (pa_cons pe_int (pa_cons pe_int pa_nil))) (pa_cons (pe_tup (pa_cons pe_int (pa_cons pe_int (pa_cons pe_int pa_nil)))) (pa_cons (pe_tup (pa_cons pe_int (pa_cons pe_int (pa_cons pe_int pa_nil)))) (pa_cons (pe_tup (pa_cons pe_int pa_nil)) pa_nil)))))))))))))
    (pss_cons (ps_set (i := 1) sc__law_shape.nd rfl (Or.inl rfl) (pe_op op_cat (pv 1) (pe_lst (pa_cons (pe_tup (pa_cons pe_int pa_nil)) (pa_cons (pe_tup (pa_cons pe_int (pa_cons pe_int (pa_cons pe_int pa_nil)))) pa_nil)))))
    (pss_one (ps_ret (pe_ix ix_seq (pv 1) (pe_fnE E__law_take (Room.mono hr (by omega)) gu (by rfl) (fun σ => passNo σ) (pa_cons (pv 0) (pa_cons pe_int pa_nil))) (fun _ _ => rfl)))))), (ds_seq (ds_asg (dx_of (de_lst (fd_cons (df_of (de_tup (fd_cons (df_of (de_c fun _ => .int 2)) (fd_cons (df_of (de_c fun _ => .int 2)) fd_nil)))) (fd_cons (df_of (de_tup (fd_cons (df_of (de_c fun _ => .int 3)) fd_nil))) (fd_cons (df_of (de_tup (fd_cons (df_of (de_c fun _ => .int 2)) (fd_cons (df_of (de_c fun _ => .int 3)) fd_nil)))) (fd_cons (df_of (de_tup (fd_cons (df_of (de_c fun _ => .int 4)) (fd_cons (df_of (de_c fun _ => .int 2)) fd_nil)))) (fd_cons (df_of (de_tup (fd_cons (df_of (de_c fun _ => .int 2)) (fd_cons (df_of (de_c fun _ => .int 2)) (fd_cons (df_of (de_c fun _ => .int 2)) fd_nil))))) (fd_cons (df_of (de_tup (fd_cons (df_of (de_c fun _ => .int 3)) (fd_cons (df_of (de_c fun _ => .int 3)) fd_nil)))) (fd_cons (df_of (de_tup (fd_cons (df_of (de_c fun _ => .int 1)) (fd_cons (df_of (de_c fun _ => .int 2)) fd_nil)))) (fd_cons (df_of (de_tup (fd_cons (df_of (de_c fun _ => .int 4)) (fd_cons (df_of (de_c fun _ => .int 4)) fd_nil)))) (fd_cons (df_of (de_tup (fd_cons (df_of (de_c fun _ => .int 3)) (fd_cons (df_of (de_c fun _ => .int 3)) (fd_cons (df_of (de_c fun _ => .int 3)) fd_nil))))) (fd_cons (df_of (de_tup (fd_cons (df_of (de_c fun _ => .int 2)) (fd_cons (df_of (de_c fun _ => .int 1)) (fd_cons (df_of (de_c fun _ => .int 3)) fd_nil))))) (fd_cons (df_of (de_tup (fd_cons (df_of (de_c fun _ => .int 1)) fd_nil))) fd_nil))))))))))))) (dg_name (by rfl)))
    (ds_seq (ds_asg (dx_of (de_op (df_of de_var) (df_of (de_lst (fd_cons (df_of (de_tup (fd_cons (df_of (de_c fun _ => .int 2)) fd_nil))) (fd_cons (df_of (de_tup (fd_cons (df_of (de_c fun _ => .int 4)) (fd_cons (df_of (de_c fun _ => .int 3)) (fd_cons (df_of (de_c fun _ => .int 2)) fd_nil))))) fd_nil)))) dc_catL)) (dg_name (by rfl)))
    (ds_ret (dx_of (de_op (df_of de_var) (df_of (de_fn E__law_take.len (da_cons de_var (da_cons (de_c fun _ => .int 13) da_nil)))) dc_ix)))))⟩)
  exact h
end KQ
set_option Elab.async false
set_option linter.all false
set_option maxRecDepth 100000
set_option maxHeartbeats 4000000
namespace KQ
open PySem PySem.Spec PyProof.Rows L2 Q
variable [TbS]
theorem ok__law_named {P : Program} {w : World} {K : PySem.W.Frag} {mg : Str → Option Value} {base : Heap} {Z : Zs} {f : Addr} {fd : FuncData} (T : Txt K mg Z w P) (F : Fun K "_law_named" "_law_named" s__law_named f fd) (E__law_take : FnE P w K mg base 1 "_law_take" ["_law_pile", "_law_size"] fn__law_take) : FnG P w K mg base 2 f fd ["_law_pile", "_law_word", "_law_shape_here"] (spD K 3 fn__law_named) := by
  have h := fn_ok (P := P) (w := w) (mg := mg) (base := base) (k := 1) (g := b__law_named) (fx := [true, true, true]) F sc__law_named rfl (fun cdv A outer s H E gu hr => by
    have tk := takes_of (X := cxOf (L2.CX P w) P w K mg base N__law_named "_law_named" (defScope s__law_named) f cdv A outer s H E) rfl rfl rfl rfl
    exact ⟨_, (pss_cons (ps_set (i := 3) sc__law_named.nd rfl (Or.inl rfl) (pe_fnE E__law_take (Room.mono hr (by omega)) gu (by rfl) (fun σ => passNo σ) (pa_cons (pv 0) (pa_cons (pe_callB call_len (by rfl) T.b_len (by decide +kernel) (pa_cons (pv 2) pa_nil)) pa_nil))))
    (pss_one (ps_ret (pe_tup (pa_cons (pv 1) (pa_cons (pv 3) (pa_cons (pe_fnE E__law_take (Room.mono hr (by omega)) gu (by rfl) (fun σ => passNo σ) (pa_cons (pv 0) (pa_cons (pe_ix ix_seq (pv 2) (pv 3) (fun _ _ => rfl)) pa_nil))) pa_nil))))))), (ds_seq (ds_asg (dx_of (de_fn E__law_take.len (da_cons de_var (da_cons (de_with (fd_cons (df_of de_var) fd_nil) dc_len) da_nil)))) (dg_name (by rfl)))
    (ds_ret (dx_of (de_tup (fd_cons (df_of de_var) (fd_cons (df_of de_var) (fd_cons (df_of (de_fn E__law_take.len (da_cons de_var (da_cons (de_op (df_of de_var) (df_of de_var) dc_ix) da_nil)))) fd_nil)))))))⟩)
  exact h
end KQ
set_option Elab.async false
set_option linter.all false
set_option maxRecDepth 100000
set_option maxHeartbeats 4000000
namespace KQ
open PySem PySem.Spec PyProof.Rows L2 Q
variable [TbS]
theorem ok__law_test {P : Program} {w : World} {K : PySem.W.Frag} {mg : Str → Option Value} {base : Heap} {Z : Zs} {f : Addr} {fd : FuncData} (T : Txt K mg Z w P) (F : Fun K "_law_test" "_law_test" s__law_test f fd) (M : Named K mg "_law_test" f fd ["_law_pile", "_law_shape_here", "_law_deep"]) (E__law_take : FnE P w K mg base 1 "_law_take" ["_law_pile", "_law_size"] fn__law_take) (E__law_named : FnE P w K mg base 2 "_law_named" ["_law_pile", "_law_word", "_law_shape_here"] fn__law_named) : ∀ k : Nat, FnG P w K mg base (k + 2) f fd ["_law_pile", "_law_shape_here", "_law_deep"] (spD K 3 (fn__law_test k)) := by
  intro k
  induction k with
  | zero => exact fn_none
  | succ kk ih =>
    have E__law_test : FnE P w K mg base (kk + 2) "_law_test" ["_law_pile", "_law_shape_here", "_law_deep"] (fn__law_test kk) := ⟨⟨f, fd, ih, M.at_, M.keep, M.binds⟩, fl__law_test kk⟩
    have h := fn_ok (P := P) (w := w) (mg := mg) (base := base) (k := kk + 2) (g := b__law_test (fn__law_test kk) kk) (fx := [true, true, true]) F sc__law_test rfl (fun cdv A outer s H E gu hr => by
      have tk := takes_of (X := cxOf (L2.CX P w) P w K mg base N__law_test "_law_test" (defScope s__law_test) f cdv A outer s H E) rfl rfl rfl rfl
      exact ⟨_, (pss_cons (ps_set (i := 3) sc__law_test.nd rfl (Or.inl rfl) (pe_fnE E__law_take (Room.mono hr (by omega)) gu (by rfl) (fun σ => passNo σ) (pa_cons (pv 0) (pa_cons pe_int pa_nil))))
    (pss_cons (ps_if (PW.pt (pw_or (pt_cmpR (op_eqD (Room.units hr)) (pv 2) pe_int (nomark _)) (pw_or1 (pt_cmpR op_lt (pv 3) pe_int (nomark _))))) (pss_cons (ps_if (pt_cmpR (op_eqD (Room.units hr)) (pv 3) pe_int (nomark _)) (pss_one (ps_ret (pe_ix ix_seq (pe_lst (pa_cons (pe_tup (pa_cons pe_str pa_nil)) (pa_cons (pe_tup (pa_cons pe_str pa_nil)) pa_nil))) (pe_fnE E__law_take (Room.mono hr (by omega)) gu (by rfl) (fun σ => passNo σ) (pa_cons (pv 0) (pa_cons pe_int pa_nil))) (fun _ _ => rfl)))) pss_nil)
    (pss_one (ps_ret (pe_fnE E__law_named (Room.mono hr (by omega)) gu (by rfl) (fun σ => passNo σ) (pa_cons (pv 0) (pa_cons pe_str (pa_cons (pv 1) pa_nil))))))) pss_nil)
    (pss_cons (ps_if (pt_cmpR op_lt (pv 3) pe_int (nomark _)) (pss_one (ps_ret (pe_tup (pa_cons pe_str (pa_cons (pe_fnE E__law_test (Room.mono hr (by omega)) gu (by rfl) (fun σ => passNo σ) (pa_cons (pv 0) (pa_cons (pv 1) (pa_cons (pe_op op_sub (pv 2) pe_int) pa_nil)))) pa_nil))))) pss_nil)
    (pss_cons (ps_set (i := 4) sc__law_test.nd rfl (Or.inl rfl) (pe_fnE E__law_test (Room.mono hr (by omega)) gu (by rfl) (fun σ => passNo σ) (pa_cons (pv 0) (pa_cons (pv 1) (pa_cons (pe_op op_sub (pv 2) pe_int) pa_nil)))))
    (pss_one (ps_ret (pe_tup (pa_cons (pe_ix ix_seq (pe_lst (pa_cons pe_str (pa_cons pe_str pa_nil))) (pe_op op_mod (pv 3) pe_int) (fun _ _ => rfl)) (pa_cons (pv 4) (pa_cons (pe_fnE E__law_test (Room.mono hr (by omega)) gu (by rfl) (fun σ => passNo σ) (pa_cons (pv 0) (pa_cons (pv 1) (pa_cons (pe_op op_sub (pv 2) pe_int) pa_nil)))) pa_nil)))))))))), (ds_seq (ds_asg (dx_of (de_fn E__law_take.len (da_cons de_var (da_cons (de_c fun _ => .int 9) da_nil)))) (dg_name (by rfl)))
    (ds_seq (ds_if (dtx_of (dt_or (dt_test (df_of (de_op (df_of de_var) (df_of (de_c fun _ => .int 0)) dc_eq))) (dt_test (df_of (de_op (df_of de_var) (df_of (de_c fun _ => .int 4)) dc_lt))))) (ds_seq (ds_if (dtx_of (dt_test (df_of (de_op (df_of de_var) (df_of (de_c fun _ => .int 3)) dc_eq)))) (ds_ret (dx_of (de_op (df_of (de_lst (fd_cons (df_of (de_tup (fd_cons (df_of (de_c fun _ => .str "yes")) fd_nil))) (fd_cons (df_of (de_tup (fd_cons (df_of (de_c fun _ => .str "no")) fd_nil))) fd_nil)))) (df_of (de_fn E__law_take.len (da_cons de_var (da_cons (de_c fun _ => .int 2) da_nil)))) dc_ix))) ds_next)
    (ds_ret (dx_of (de_fn E__law_named.len (da_cons de_var (da_cons (de_c fun _ => .str "is") (da_cons de_var da_nil))))))) ds_next)
    (ds_seq (ds_if (dtx_of (dt_test (df_of (de_op (df_of de_var) (df_of (de_c fun _ => .int 6)) dc_lt)))) (ds_ret (dx_of (de_tup (fd_cons (df_of (de_c fun _ => .str "not")) (fd_cons (df_of (de_fn E__law_test.len (da_cons de_var (da_cons de_var (da_cons (de_op (df_of de_var) (df_of (de_c fun _ => .int 1)) dc_sub) da_nil))))) fd_nil))))) ds_next)
    (ds_seq (ds_asg (dx_of (de_fn E__law_test.len (da_cons de_var (da_cons de_var (da_cons (de_op (df_of de_var) (df_of (de_c fun _ => .int 1)) dc_sub) da_nil))))) (dg_name (by rfl)))
    (ds_ret (dx_of (de_tup (fd_cons (df_of (de_op (df_of (de_lst (fd_cons (df_of (de_c fun _ => .str "then")) (fd_cons (df_of (de_c fun _ => .str "either")) fd_nil)))) (df_of (de_op (df_of de_var) (df_of (de_c fun _ => .int 2)) dc_mod)) dc_ix)) (fd_cons (df_of de_var) (fd_cons (df_of (de_fn E__law_test.len (da_cons de_var (da_cons de_var (da_cons (de_op (df_of de_var) (df_of (de_c fun _ => .int 1)) dc_sub) da_nil))))) fd_nil))))))))))⟩)
    exact h.mono (by omega)
end KQ
set_option Elab.async false
set_option linter.all false
set_option maxRecDepth 100000
set_option maxHeartbeats 4000000
namespace KQ
open PySem PySem.Spec PyProof.Rows L2 Q
variable [TbS]
theorem ok__law_saying {P : Program} {w : World} {K : PySem.W.Frag} {mg : Str → Option Value} {base : Heap} {Z : Zs} {f : Addr} {fd : FuncData} (T : Txt K mg Z w P) (F : Fun K "_law_saying" "_law_saying" s__law_saying f fd) (M : Named K mg "_law_saying" f fd ["_law_pile", "_law_shape_here", "_law_deep", "_law_notes"]) (E__law_take : FnE P w K mg base 1 "_law_take" ["_law_pile", "_law_size"] fn__law_take) (E__law_named : FnE P w K mg base 2 "_law_named" ["_law_pile", "_law_word", "_law_shape_here"] fn__law_named) (E__law_test : ∀ k : Nat, FnE P w K mg base (k + 2) "_law_test" ["_law_pile", "_law_shape_here", "_law_deep"] (fn__law_test k)) : ∀ k : Nat, FnG P w K mg base (k + 2) f fd ["_law_pile", "_law_shape_here", "_law_deep", "_law_notes"] (spD K 4 (fn__law_saying k)) := by
  intro k
  induction k with
  | zero => exact fn_none
  | succ kk ih =>
    have E__law_saying : FnE P w K mg base (kk + 2) "_law_saying" ["_law_pile", "_law_shape_here", "_law_deep", "_law_notes"] (fn__law_saying kk) := ⟨⟨f, fd, ih, M.at_, M.keep, M.binds⟩, fl__law_saying kk⟩
    have h := fn_ok (P := P) (w := w) (mg := mg) (base := base) (k := kk + 2) (g := b__law_saying (fn__law_saying kk) kk) (fx := [true, true, true, true]) F sc__law_saying rfl (fun cdv A outer s H E gu hr => by
      have tk := takes_of (X := cxOf (L2.CX P w) P w K mg base N__law_saying "_law_saying" (defScope s__law_saying) f cdv A outer s H E) rfl rfl rfl rfl
      exact ⟨_, (pss_cons (ps_set (i := 4) sc__law_saying.nd rfl (Or.inl rfl) (pe_fnE E__law_take (Room.mono hr (by omega)) gu (by rfl) (fun σ => passNo σ) (pa_cons (pv 0) (pa_cons pe_int pa_nil))))
    (pss_cons (ps_if (PW.pt (pw_and (pt_cmpR (op_eqD (Room.units hr)) (pv 4) pe_int (nomark _)) (pw_and1 (pt_cmpR op_gt (pe_callB call_len (by rfl) T.b_len (by decide +kernel) (pa_cons (pv 3) pa_nil)) pe_int (nomark _))))) (pss_cons (ps_expr (pe_bm0 PySem.F.plainAttrs_list PySem.F.slot_list_pop PySem.F.type_list_pop mt_pop (pv 3)))
    (pss_one (ps_ret (pe_tup (pa_cons pe_str pa_nil))))) pss_nil)
    (pss_cons (ps_if (PW.pt (pw_or (pt_cmpR (op_eqD (Room.units hr)) (pv 2) pe_int (nomark _)) (pw_or1 (pt_cmpR op_lt (pv 4) pe_int (nomark _))))) (pss_cons (ps_if (pt_cmpR (op_eqD (Room.units hr)) (pv 4) pe_int (nomark _)) (pss_one (ps_ret (pe_ix ix_seq (pe_lst (pa_cons (pe_tup (pa_cons pe_str pa_nil)) (pa_cons (pe_tup (pa_cons pe_str pa_nil)) (pa_cons (pe_tup (pa_cons pe_str pa_nil)) pa_nil)))) (pe_fnE E__law_take (Room.mono hr (by omega)) gu (by rfl) (fun σ => passNo σ) (pa_cons (pv 0) (pa_cons pe_int pa_nil))) (fun _ _ => rfl)))) pss_nil)
    (pss_one (ps_ret (pe_fnE E__law_named (Room.mono hr (by omega)) gu (by rfl) (fun σ => passNo σ) (pa_cons (pv 0) (pa_cons (pe_ix ix_seq (pe_lst (pa_cons pe_str (pa_cons pe_str (pa_cons pe_str pa_nil)))) (pe_op op_mod (pv 4) pe_int) (fun _ _ => rfl)) (pa_cons (pv 1) pa_nil))))))) pss_nil)
    (pss_cons (ps_if (pt_cmpR op_lt (pv 4) pe_int (nomark _)) (pss_one (ps_ret (pe_tup (pa_cons pe_str (pa_cons (pe_fnE (E__law_test kk) (Room.mono hr (by omega)) gu (by rfl) (fun σ => passNo σ) (pa_cons (pv 0) (pa_cons (pv 1) (pa_cons (pe_callB (call_min2 rfl) (by rfl) T.b_min (by decide +kernel) (pa_cons (pe_op op_sub (pv 2) pe_int) (pa_cons pe_int pa_nil))) pa_nil)))) pa_nil))))) pss_nil)
    (pss_cons (ps_if (pt_cmpR op_lt (pv 4) pe_int (nomark _)) (pss_one (ps_ret (pe_tup (pa_cons pe_str (pa_cons (pe_fnE E__law_saying (Room.mono hr (by omega)) gu (by rfl) (fun σ => passNo σ) (pa_cons (pv 0) (pa_cons (pv 1) (pa_cons (pe_op op_sub (pv 2) pe_int) (pa_cons (pv 3) pa_nil))))) pa_nil))))) pss_nil)
    (pss_cons (ps_set (i := 5) sc__law_saying.nd rfl (Or.inl rfl) (pe_fnE E__law_saying (Room.mono hr (by omega)) gu (by rfl) (fun σ => passNo σ) (pa_cons (pv 0) (pa_cons (pv 1) (pa_cons (pe_op op_sub (pv 2) pe_int) (pa_cons (pv 3) pa_nil))))))
    (pss_one (ps_ret (pe_tup (pa_cons (pe_ix ix_seq (pe_lst (pa_cons pe_str (pa_cons pe_str pa_nil))) (pe_op op_mod (pv 4) pe_int) (fun _ _ => rfl)) (pa_cons (pv 5) (pa_cons (pe_fnE E__law_saying (Room.mono hr (by omega)) gu (by rfl) (fun σ => passNo σ) (pa_cons (pv 0) (pa_cons (pv 1) (pa_cons (pe_op op_sub (pv 2) pe_int) (pa_cons (pv 3) pa_nil))))) pa_nil)))))))))))), (ds_seq (ds_asg (dx_of (de_fn E__law_take.len (da_cons de_var (da_cons (de_c fun _ => .int 16) da_nil)))) (dg_name (by rfl)))
    (ds_seq (ds_if (dtx_of (dt_scal (dt_and (dt_test (df_of (de_op (df_of de_var) (df_of (de_c fun _ => .int 0)) dc_eq))) (dt_test (df_of (de_op (df_of (de_of (df_scal (df_of (de_with (fd_cons (df_of de_var) fd_nil) dc_len))))) (df_of (de_c fun _ => .int 0)) dc_gt)))))) (ds_seq (ds_drop (dx_of de_pop))
    (ds_ret (dx_of (de_tup (fd_cons (df_of (de_c fun _ => .str "note")) fd_nil))))) ds_next)
    (ds_seq (ds_if (dtx_of (dt_or (dt_test (df_of (de_op (df_of de_var) (df_of (de_c fun _ => .int 0)) dc_eq))) (dt_test (df_of (de_op (df_of de_var) (df_of (de_c fun _ => .int 5)) dc_lt))))) (ds_seq (ds_if (dtx_of (dt_test (df_of (de_op (df_of de_var) (df_of (de_c fun _ => .int 1)) dc_eq)))) (ds_ret (dx_of (de_op (df_of (de_lst (fd_cons (df_of (de_tup (fd_cons (df_of (de_c fun _ => .str "yes")) fd_nil))) (fd_cons (df_of (de_tup (fd_cons (df_of (de_c fun _ => .str "no")) fd_nil))) (fd_cons (df_of (de_tup (fd_cons (df_of (de_c fun _ => .str "yes")) fd_nil))) fd_nil))))) (df_of (de_fn E__law_take.len (da_cons de_var (da_cons (de_c fun _ => .int 3) da_nil)))) dc_ix))) ds_next)
    (ds_ret (dx_of (de_fn E__law_named.len (da_cons de_var (da_cons (de_op (df_of (de_lst (fd_cons (df_of (de_c fun _ => .str "put")) (fd_cons (df_of (de_c fun _ => .str "is")) (fd_cons (df_of (de_c fun _ => .str "put")) fd_nil))))) (df_of (de_op (df_of de_var) (df_of (de_c fun _ => .int 3)) dc_mod)) dc_ix) (da_cons de_var da_nil))))))) ds_next)
    (ds_seq (ds_if (dtx_of (dt_test (df_of (de_op (df_of de_var) (df_of (de_c fun _ => .int 7)) dc_lt)))) (ds_ret (dx_of (de_tup (fd_cons (df_of (de_c fun _ => .str "not")) (fd_cons (df_of (de_fn (E__law_test kk).len (da_cons de_var (da_cons de_var (da_cons (de_with (fd_cons (df_of (de_op (df_of de_var) (df_of (de_c fun _ => .int 1)) dc_sub)) (fd_cons (df_of (de_c fun _ => .int 2)) fd_nil)) dc_min2) da_nil))))) fd_nil))))) ds_next)
    (ds_seq (ds_if (dtx_of (dt_test (df_of (de_op (df_of de_var) (df_of (de_c fun _ => .int 9)) dc_lt)))) (ds_ret (dx_of (de_tup (fd_cons (df_of (de_c fun _ => .str "again")) (fd_cons (df_of (de_fn E__law_saying.len (da_cons de_var (da_cons de_var (da_cons (de_op (df_of de_var) (df_of (de_c fun _ => .int 1)) dc_sub) (da_cons de_var da_nil)))))) fd_nil))))) ds_next)
    (ds_seq (ds_asg (dx_of (de_fn E__law_saying.len (da_cons de_var (da_cons de_var (da_cons (de_op (df_of de_var) (df_of (de_c fun _ => .int 1)) dc_sub) (da_cons de_var da_nil)))))) (dg_name (by rfl)))
    (ds_ret (dx_of (de_tup (fd_cons (df_of (de_op (df_of (de_lst (fd_cons (df_of (de_c fun _ => .str "then")) (fd_cons (df_of (de_c fun _ => .str "either")) fd_nil)))) (df_of (de_op (df_of de_var) (df_of (de_c fun _ => .int 2)) dc_mod)) dc_ix)) (fd_cons (df_of de_var) (fd_cons (df_of (de_fn E__law_saying.len (da_cons de_var (da_cons de_var (da_cons (de_op (df_of de_var) (df_of (de_c fun _ => .int 1)) dc_sub) (da_cons de_var da_nil)))))) fd_nil))))))))))))⟩)
    exact h.mono (by omega)
end KQ
set_option Elab.async false
set_option linter.all false
set_option maxRecDepth 100000
set_option maxHeartbeats 4000000
namespace KQ
open PySem PySem.Spec PyProof.Rows L2 Q
variable [TbS]
theorem ok__law_drawn {P : Program} {w : World} {K : PySem.W.Frag} {mg : Str → Option Value} {base : Heap} {Z : Zs} {f : Addr} {fd : FuncData} (T : Txt K mg Z w P) (F : Fun K "_law_drawn" "_law_drawn" s__law_drawn f fd) (E__law_cell : FnE P w K mg base 2 "_law_cell" ["_law_script", "_law_k"] fn__law_cell) (E__law_take : FnE P w K mg base 1 "_law_take" ["_law_pile", "_law_size"] fn__law_take) (E__law_shape : FnE P w K mg base 2 "_law_shape" ["_law_pile"] fn__law_shape) (E__law_saying : FnE P w K mg base (FU + 2) "_law_saying" ["_law_pile", "_law_shape_here", "_law_deep", "_law_notes"] (fn__law_saying FU)) : FnG P w K mg base (FU + 3) f fd ["_law_script", "_law_k", "_law_deep"] (spD K 3 fn__law_drawn) := by
  have h := fn_ok (P := P) (w := w) (mg := mg) (base := base) (k := (FU + 2)) (g := b__law_drawn) (fx := [true, true, true]) F sc__law_drawn rfl (fun cdv A outer s H E gu hr => by
    have tk := takes_of (X := cxOf (L2.CX P w) P w K mg base N__law_drawn "_law_drawn" (defScope s__law_drawn) f cdv A outer s H E) rfl rfl rfl rfl
    exact ⟨_, (pss_cons (ps_set (i := 3) sc__law_drawn.nd rfl (Or.inl rfl) (pe_lst (pa_cons (pe_fnE E__law_cell (Room.mono hr (by omega)) gu (by rfl) (fun σ => passNo σ) (pa_cons (pv 0) (pa_cons (pv 1) pa_nil))) pa_nil)))
    (pss_cons (ps_set (i := 4) sc__law_drawn.nd rfl (Or.inl rfl) (pe_fnE E__law_shape (Room.mono hr (by omega)) gu (by rfl) (fun σ => passNo σ) (pa_cons (pv 3) pa_nil)))
    (pss_cons (ps_set (i := 5) sc__law_drawn.nd rfl (Or.inl rfl) (pe_op op_rep (pe_lst (pa_cons pe_int pa_nil)) (pe_ix ix_seq (pe_lst (pa_cons pe_int (pa_cons pe_int (pa_cons pe_int (pa_cons pe_int pa_nil))))) (pe_fnE E__law_take (Room.mono hr (by omega)) gu (by rfl) (fun σ => passNo σ) (pa_cons (pv 3) (pa_cons pe_int pa_nil))) (fun _ _ => rfl))))
    (pss_one (ps_ret (pe_tup (pa_cons (pv 4) (pa_cons (pe_fnE E__law_saying (Room.mono hr (by omega)) gu (by rfl) (fun σ => passNo σ) (pa_cons (pv 3) (pa_cons (pv 4) (pa_cons (pv 2) (pa_cons (pv 5) pa_nil))))) pa_nil)))))))), (ds_seq (ds_asg (dx_of (de_lst (fd_cons (df_of (de_fn E__law_cell.len (da_cons de_var (da_cons de_var da_nil)))) fd_nil))) (dg_name (by rfl)))
    (ds_seq (ds_asg (dx_of (de_fn E__law_shape.len (da_cons de_var da_nil))) (dg_name (by rfl)))
    (ds_seq (ds_asg (dx_of (de_op (df_of (de_lst (fd_cons (df_of (de_c fun _ => .int 1)) fd_nil))) (df_of (de_op (df_of (de_lst (fd_cons (df_of (de_c fun _ => .int 0)) (fd_cons (df_of (de_c fun _ => .int 1)) (fd_cons (df_of (de_c fun _ => .int 2)) (fd_cons (df_of (de_c fun _ => .int 5)) fd_nil)))))) (df_of (de_fn E__law_take.len (da_cons de_var (da_cons (de_c fun _ => .int 4) da_nil)))) dc_ix)) dc_mulL)) (dg_name (by rfl)))
    (ds_ret (dx_of (de_tup (fd_cons (df_of de_var) (fd_cons (df_of (de_fn E__law_saying.len (da_cons de_var (da_cons de_var (da_cons de_var (da_cons de_var da_nil)))))) fd_nil))))))))⟩)
  exact h
end KQ
set_option Elab.async false
set_option linter.all false
set_option maxRecDepth 100000
set_option maxHeartbeats 4000000
namespace KQ
open PySem PySem.Spec PyProof.Rows L2 Q
variable [TbS]
theorem ok__law_text {P : Program} {w : World} {K : PySem.W.Frag} {mg : Str → Option Value} {base : Heap} {Z : Zs} {f : Addr} {fd : FuncData} (T : Txt K mg Z w P) (F : Fun K "_law_text" "_law_text" s__law_text f fd) (M : Named K mg "_law_text" f fd ["_law_saying_here"]) : ∀ k : Nat, FnG P w K mg base (k + 0) f fd ["_law_saying_here"] (spD K 1 (fn__law_text k)) := by
  intro k
  induction k with
  | zero => exact fn_none
  | succ kk ih =>
    have E__law_text : FnE P w K mg base (kk + 0) "_law_text" ["_law_saying_here"] (fn__law_text kk) := ⟨⟨f, fd, ih, M.at_, M.keep, M.binds⟩, fl__law_text kk⟩
    have h := fn_ok (P := P) (w := w) (mg := mg) (base := base) (k := kk + 0) (g := b__law_text (fn__law_text kk) kk) (fx := [true]) F sc__law_text rfl (fun cdv A outer s H E gu hr => by
      have tk := takes_of (X := cxOf (L2.CX P w) P w K mg base N__law_text "_law_text" (defScope s__law_text) f cdv A outer s H E) rfl rfl rfl rfl
      exact ⟨_, (pss_cons (ps_set (i := 1) sc__law_text.nd rfl (Or.inl rfl) (pe_ix ix_seq (pv 0) pe_int (fun _ _ => rfl)))
    (pss_cons (ps_if (pt_cmpR op_in_seq (pv 1) (pe_lst (pa_cons pe_str (pa_cons pe_str (pa_cons pe_str pa_nil)))) (by rfl)) (pss_one (ps_ret (pv 1))) pss_nil)
    (pss_cons (ps_if (PW.pt (pw_or (pt_cmpR (op_eqD (Room.units hr)) (pv 1) pe_str (nomark _)) (pw_or1 (pt_cmpR (op_eqD (Room.units hr)) (pv 1) pe_str (nomark _))))) (pss_one (ps_ret (pe_op op_catSt (pe_op op_catSt (pe_ix ix_seq pe_str (pe_ix ix_seq (pv 0) pe_int (fun _ _ => rfl)) (fun _ _ => rfl)) (pe_ix ix_seq (pe_lst (pa_cons pe_str (pa_cons pe_str pa_nil))) (pe_callTy call_int1 (by rfl) T.b_int (by decide +kernel) (pa_cons (pe_cmpR (op_eqD (Room.units hr)) (pv 1) pe_str (nomark _)) pa_nil)) (fun _ _ => rfl))) (pe_callTy call_str_int (by rfl) T.b_str (by decide +kernel) (pa_cons (pe_ix ix_seq (pv 0) pe_int (fun _ _ => rfl)) pa_nil))))) pss_nil)
    (pss_cons (ps_if (PW.pt (pw_or (pt_cmpR (op_eqD (Room.units hr)) (pv 1) pe_str (nomark _)) (pw_or1 (pt_cmpR (op_eqD (Room.units hr)) (pv 1) pe_str (nomark _))))) (pss_one (ps_ret (pe_op op_catSt (pe_op op_catSt (pe_op op_catSt (pv 1) pe_str) (pe_fnE E__law_text (Room.mono hr (by omega)) gu (by rfl) (fun σ => passNo σ) (pa_cons (pe_ix ix_seq (pv 0) pe_int (fun _ _ => rfl)) pa_nil))) pe_str))) pss_nil)
    (pss_one (ps_ret (pe_op op_catSt (pe_op op_catSt (pe_op op_catSt (pe_op op_catSt pe_str (pe_fnE E__law_text (Room.mono hr (by omega)) gu (by rfl) (fun σ => passNo σ) (pa_cons (pe_ix ix_seq (pv 0) pe_int (fun _ _ => rfl)) pa_nil))) (pe_ix ix_seq (pe_lst (pa_cons pe_str (pa_cons pe_str pa_nil))) (pe_callTy call_int1 (by rfl) T.b_int (by decide +kernel) (pa_cons (pe_cmpR (op_eqD (Room.units hr)) (pv 1) pe_str (nomark _)) pa_nil)) (fun _ _ => rfl))) (pe_fnE E__law_text (Room.mono hr (by omega)) gu (by rfl) (fun σ => passNo σ) (pa_cons (pe_ix ix_seq (pv 0) pe_int (fun _ _ => rfl)) pa_nil))) pe_str))))))), (ds_seq (ds_asg (dx_of (de_op (df_of de_var) (df_of (de_c fun _ => .int 0)) dc_ix)) (dg_name (by rfl)))
    (ds_seq (ds_if (dtx_of (dt_test (df_of (de_op (df_of de_var) (df_of (de_lst (fd_cons (df_of (de_c fun _ => .str "yes")) (fd_cons (df_of (de_c fun _ => .str "no")) (fd_cons (df_of (de_c fun _ => .str "note")) fd_nil))))) dc_in)))) (ds_ret (dx_of de_var)) ds_next)
    (ds_seq (ds_if (dtx_of (dt_or (dt_test (df_of (de_op (df_of de_var) (df_of (de_c fun _ => .str "is")) dc_eq))) (dt_test (df_of (de_op (df_of de_var) (df_of (de_c fun _ => .str "put")) dc_eq))))) (ds_ret (dx_of (de_op (df_of (de_op (df_of (de_op (df_of (de_c fun _ => .str "abc")) (df_of (de_op (df_of de_var) (df_of (de_c fun _ => .int 1)) dc_ix)) dc_ixS)) (df_of (de_op (df_of (de_lst (fd_cons (df_of (de_c fun _ => .str "=")) (fd_cons (df_of (de_c fun _ => .str ":")) fd_nil)))) (df_of (de_with (fd_cons (df_of (de_op (df_of de_var) (df_of (de_c fun _ => .str "put")) dc_eq)) fd_nil) dc_int)) dc_ix)) dc_catS)) (df_of (de_with (fd_cons (df_of (de_op (df_of de_var) (df_of (de_c fun _ => .int 2)) dc_ix)) fd_nil) dc_strI)) dc_catS))) ds_next)
    (ds_seq (ds_if (dtx_of (dt_or (dt_test (df_of (de_op (df_of de_var) (df_of (de_c fun _ => .str "not")) dc_eq))) (dt_test (df_of (de_op (df_of de_var) (df_of (de_c fun _ => .str "again")) dc_eq))))) (ds_ret (dx_of (de_op (df_of (de_op (df_of (de_op (df_of de_var) (df_of (de_c fun _ => .str "(")) dc_catS)) (df_of (de_fn E__law_text.len (da_cons (de_op (df_of de_var) (df_of (de_c fun _ => .int 1)) dc_ix) da_nil))) dc_catS)) (df_of (de_c fun _ => .str ")")) dc_catS))) ds_next)
    (ds_ret (dx_of (de_op (df_of (de_op (df_of (de_op (df_of (de_op (df_of (de_c fun _ => .str "(")) (df_of (de_fn E__law_text.len (da_cons (de_op (df_of de_var) (df_of (de_c fun _ => .int 1)) dc_ix) da_nil))) dc_catS)) (df_of (de_op (df_of (de_lst (fd_cons (df_of (de_c fun _ => .str ";")) (fd_cons (df_of (de_c fun _ => .str "|")) fd_nil)))) (df_of (de_with (fd_cons (df_of (de_op (df_of de_var) (df_of (de_c fun _ => .str "either")) dc_eq)) fd_nil) dc_int)) dc_ix)) dc_catS)) (df_of (de_fn E__law_text.len (da_cons (de_op (df_of de_var) (df_of (de_c fun _ => .int 2)) dc_ix) da_nil))) dc_catS)) (df_of (de_c fun _ => .str ")")) dc_catS)))))))⟩)
    exact h.mono (by omega)
end KQ
set_option Elab.async false
set_option linter.all false
set_option maxRecDepth 100000
set_option maxHeartbeats 4000000
namespace KQ
open PySem PySem.Spec PyProof.Rows L2 Q
variable [TbS]
theorem ok_law {P : Program} {w : World} {K : PySem.W.Frag} {mg : Str → Option Value} {base : Heap} {Z : Zs} {f : Addr} {fd : FuncData} (T : Txt K mg Z w P) (F : Fun K "law" "law" s_law f fd) (E_shown_saying : FnE P w K mg base 7 "shown_saying" ["shape", "saying"] (fn_shown_saying Z)) (E_read_saying : FnE P w K mg base 6 "read_saying" ["shape", "text"] (fn_read_saying Z)) (E__law_drawn : FnE P w K mg base (FU + 3) "_law_drawn" ["_law_script", "_law_k", "_law_deep"] fn__law_drawn) (E__law_text : FnE P w K mg base (FU + 0) "_law_text" ["_law_saying_here"] (fn__law_text FU)) : FnG P w K mg base (FU + 8) f fd ["_law_script"] (spD K 1 (fn_law Z)) := by
  have h := fn_ok (P := P) (w := w) (mg := mg) (base := base) (k := (FU + 7)) (g := b_law Z) (fx := [true]) F sc_law rfl (fun cdv A outer s H E gu hr => by
    have tk := takes_of (X := cxOf (L2.CX P w) P w K mg base N_law "law" (defScope s_law) f cdv A outer s H E) rfl rfl rfl rfl
    exact ⟨_, (pss_cons (ps_set (i := 1) sc_law.nd rfl (Or.inl rfl) (pe_lst (pa_cons (pe_tup (pa_cons (pe_tup (pa_cons pe_int (pa_cons pe_int pa_nil))) (pa_cons (pe_tup (pa_cons pe_str pa_nil)) pa_nil))) (pa_cons (pe_tup (pa_cons (pe_tup (pa_cons pe_int (pa_cons pe_int pa_nil))) (pa_cons (pe_tup (pa_cons pe_str pa_nil)) pa_nil))) (pa_cons (pe_tup (pa_cons (pe_tup (pa_cons pe_int (pa_cons pe_int (pa_cons pe_int pa_nil)))) (pa_cons (pe_tup (pa_cons pe_str (pa_cons pe_int (pa_cons pe_int pa_nil)))) pa_nil))) (pa_cons (pe_tup (pa_cons (pe_tup (pa_cons pe_int (pa_cons pe_int (pa_cons pe_int pa_nil)))) (pa_cons (pe_tup (pa_cons pe_str (pa_cons (pe_tup (pa_cons pe_str (pa_cons pe_int (pa_cons pe_int pa_nil)))) pa_nil))) pa_nil))) pa_nil))))))
    (pss_cons (ps_for (passes_of rfl) rfl (pi_range1 (by rfl) T.b_range (pa_cons pe_int pa_nil)) (pg_name (i := 2) sc_law.nd rfl (Or.inl rfl)) (pss_one (ps_expr (pe_bm PySem.F.plainAttrs_list PySem.F.slot_list_append PySem.F.type_list_append mt_append (pv 1) (pa_cons (pe_fnE E__law_drawn (Room.mono hr (by omega)) gu (by rfl) (fun σ => passNo σ) (pa_cons (pv 0) (pa_cons (pv 2) (pa_cons pe_int pa_nil)))) pa_nil)))))
    (pss_cons (ps_for (passes_of rfl) rfl (pi_list (pv 1)) (pg_tup rfl (pgs_cons (pg_name (i := 3) sc_law.nd rfl (Or.inl rfl)) (pgs_cons (pg_name (i := 4) sc_law.nd rfl (Or.inl rfl)) pgs_nil))) (pss_cons (ps_set (i := 5) sc_law.nd rfl (Or.inl rfl) (pe_callB (call_rep gu hr) (by rfl) T.b_repr (by decide +kernel) (pa_cons (pv 4) pa_nil)))
    (pss_cons (ps_set (i := 6) sc_law.nd rfl (Or.inl rfl) (pe_fnE (E := WE _) E_shown_saying (Room.mono hr (by omega)) gu (by rfl) (fun σ => passAt tk σ) (pa_cons (pv 3) (pa_cons (pv 4) pa_nil))))
    (pss_cons (ps_if (PW.pt (pw_or (pt_not (pt_val (pe_callB call_isi (by rfl) T.b_isinstance (by decide +kernel) (pa_cons (pv 6) (pa_cons (pe_bltn (v := .ty "str") (by rfl) T.b_str (by decide +kernel) rfl) pa_nil))))) (pw_or (pt_cmpR (op_neD (Room.units hr)) (pv 6) (pe_fnE E__law_text (Room.mono hr (by omega)) gu (by rfl) (fun σ => passNo σ) (pa_cons (pv 4) pa_nil)) (nomark _)) (pw_or1 (pt_cmpR (op_neD (Room.units hr)) (pe_callB (call_rep gu hr) (by rfl) T.b_repr (by decide +kernel) (pa_cons (pv 4) pa_nil)) (pv 5) (nomark _)))))) (pss_one (ps_ret pe_bl)) pss_nil)
    (pss_one (ps_if (pt_cmpR (op_neD (Room.units hr)) (pe_callB (call_rep gu hr) (by rfl) T.b_repr (by decide +kernel) (pa_cons (pe_fnE E_read_saying (Room.mono hr (by omega)) gu (by rfl) (fun σ => passNo σ) (pa_cons (pv 3) (pa_cons (pv 6) pa_nil))) pa_nil)) (pv 5) (nomark _)) (pss_one (ps_ret pe_bl)) pss_nil))))))
    (pss_one (ps_ret pe_bl))))), (ds_seq (ds_asg (dx_of (de_lst (fd_cons (df_of (de_tup (fd_cons (df_of (de_tup (fd_cons (df_of (de_c fun _ => .int 2)) (fd_cons (df_of (de_c fun _ => .int 2)) fd_nil)))) (fd_cons (df_of (de_tup (fd_cons (df_of (de_c fun _ => .str "yes")) fd_nil))) fd_nil)))) (fd_cons (df_of (de_tup (fd_cons (df_of (de_tup (fd_cons (df_of (de_c fun _ => .int 2)) (fd_cons (df_of (de_c fun _ => .int 2)) fd_nil)))) (fd_cons (df_of (de_tup (fd_cons (df_of (de_c fun _ => .str "no")) fd_nil))) fd_nil)))) (fd_cons (df_of (de_tup (fd_cons (df_of (de_tup (fd_cons (df_of (de_c fun _ => .int 4)) (fd_cons (df_of (de_c fun _ => .int 3)) (fd_cons (df_of (de_c fun _ => .int 2)) fd_nil))))) (fd_cons (df_of (de_tup (fd_cons (df_of (de_c fun _ => .str "put")) (fd_cons (df_of (de_c fun _ => .int 2)) (fd_cons (df_of (de_c fun _ => .int 1)) fd_nil))))) fd_nil)))) (fd_cons (df_of (de_tup (fd_cons (df_of (de_tup (fd_cons (df_of (de_c fun _ => .int 4)) (fd_cons (df_of (de_c fun _ => .int 3)) (fd_cons (df_of (de_c fun _ => .int 2)) fd_nil))))) (fd_cons (df_of (de_tup (fd_cons (df_of (de_c fun _ => .str "not")) (fd_cons (df_of (de_tup (fd_cons (df_of (de_c fun _ => .str "is")) (fd_cons (df_of (de_c fun _ => .int 1)) (fd_cons (df_of (de_c fun _ => .int 2)) fd_nil))))) fd_nil)))) fd_nil)))) fd_nil)))))) (dg_name (by rfl)))
    (ds_seq (ds_for (di_range1 (fd_cons (df_of (de_c fun _ => .int 5)) fd_nil)) (dg_name (by rfl)) (ds_drop (dx_of (de_append (dm_of (de_fn E__law_drawn.len (da_cons de_var (da_cons de_var (da_cons (de_c fun _ => .int 4) da_nil)))))))))
    (ds_seq (ds_for (di_list (df_of de_var)) (dg_tup (dgs_cons (dg_name (by rfl)) (dgs_cons (dg_name (by rfl)) dgs_nil))) (ds_seq (ds_asg (dx_of (de_with (fd_cons (df_of de_var) fd_nil) dc_rep)) (dg_name (by rfl)))
    (ds_seq (ds_asg (dx_ucall E_shown_saying.len (da_cons de_var (da_cons de_var da_nil))) (dg_name (by rfl)))
    (ds_seq (ds_if (dtx_of (dt_or (dt_not (dt_bl (df_of (de_isi (c := .str) (df_of de_var))))) (dt_or (dt_test (df_of (de_op (df_of de_var) (df_of (de_fn E__law_text.len (da_cons de_var da_nil))) dc_ne))) (dt_test (df_of (de_op (df_of (de_with (fd_cons (df_of de_var) fd_nil) dc_rep)) (df_of de_var) dc_ne)))))) (ds_ret (dx_of (de_c fun _ => .bl false))) ds_next)
    (ds_if (dtx_of (dt_test (df_of (de_op (df_of (de_with (fd_cons (df_of (de_fn E_read_saying.len (da_cons de_var (da_cons de_var da_nil)))) fd_nil) dc_rep)) (df_of de_var) dc_ne)))) (ds_ret (dx_of (de_c fun _ => .bl false))) ds_next)))))
    (ds_ret (dx_of (de_c fun _ => .bl true))))))⟩)
  exact h
end KQ
set_option Elab.async false
set_option linter.all false
set_option maxRecDepth 100000
set_option maxHeartbeats 8000000
namespace KQ
open PySem PySem.Spec PyProof.Rows L2 Q
/-! ### words -/
inductive Wd where
  | yes | no | note | is | put | thn | eit | aga | nt | oth
  deriving DecidableEq
def wd (w : Str) : Wd := if w == "yes" then .yes else if w == "no" then .no else if w == "note" then .note else if w == "is" then .is else if w == "put" then .put else if w == "then" then .thn else if w == "either" then .eit else if w == "again" then .aga else if w == "not" then .nt else .oth
def lits : List (Str × Wd) := [("yes", .yes), ("no", .no), ("note", .note), ("is", .is), ("put", .put), ("then", .thn), ("either", .eit), ("again", .aga), ("not", .nt)]
theorem lits_ok : (lits.all fun p => wd p.1 == p.2 && lits.all fun q => (p.1 == q.1) == (p.2 == q.2)) = true := by decide +kernel
theorem wd_lit {w l : Str} {x : Wd} (hx : x ≠ .oth) (hm : (l, x) ∈ lits) : (w == l) = decide (wd w = x) := by
  by_cases c : w = l
  · subst c
    have h := List.all_eq_true.mp lits_ok _ hm
    rw [Bool.and_eq_true] at h
    rw [show wd w = x from by simpa using h.1]
    simp
  · have n : (w == l) = false := by simpa using c
    rw [n]
    symm
    rw [decide_eq_false_iff_not]
    intro z
    have key : ∃ p ∈ lits, w = p.1 ∧ p.2 = x := by
      subst z
      unfold wd at hx ⊢
      split at hx
      · exact ⟨("yes", .yes), by decide +kernel, by simpa using ‹(w == "yes") = true›, by simp [*]⟩
      split at hx
      · exact ⟨("no", .no), by decide +kernel, by simpa using ‹(w == "no") = true›, by simp [*]⟩
      split at hx
      · exact ⟨("note", .note), by decide +kernel, by simpa using ‹(w == "note") = true›, by simp [*]⟩
      split at hx
      · exact ⟨("is", .is), by decide +kernel, by simpa using ‹(w == "is") = true›, by simp [*]⟩
      split at hx
      · exact ⟨("put", .put), by decide +kernel, by simpa using ‹(w == "put") = true›, by simp [*]⟩
      split at hx
      · exact ⟨("then", .thn), by decide +kernel, by simpa using ‹(w == "then") = true›, by simp [*]⟩
      split at hx
      · exact ⟨("either", .eit), by decide +kernel, by simpa using ‹(w == "either") = true›, by simp [*]⟩
      split at hx
      · exact ⟨("again", .aga), by decide +kernel, by simpa using ‹(w == "again") = true›, by simp [*]⟩
      split at hx
      · exact ⟨("not", .nt), by decide +kernel, by simpa using ‹(w == "not") = true›, by simp [*]⟩
      · exact absurd rfl hx
    obtain ⟨p, hp, e1, e2⟩ := key
    have h := List.all_eq_true.mp lits_ok _ hp
    rw [Bool.and_eq_true] at h
    have h2 := List.all_eq_true.mp h.2 _ hm
    have : (p.1 == l) = true := by
      have q := beq_iff_eq.mp h2
      dsimp only at q
      rw [q, e2]
      exact beq_self_eq_true x
    exact c (by rw [e1]; simpa using this)
theorem lit_wd {w l : Str} {x : Wd} (hx : x ≠ .oth) (hm : (l, x) ∈ lits) : (l == w) = decide (wd w = x) := by
  rw [← wd_lit hx hm]
  by_cases c : w = l
  · subst c; rfl
  · have : ¬ l = w := fun z => c z.symm
    rw [show (l == w) = false by simpa using this, show (w == l) = false by simpa using c]
theorem e1 (w : Str) : (w == ("yes" : Str)) = decide (wd w = .yes) := wd_lit (by decide) (by decide +kernel)
theorem e2 (w : Str) : (w == ("no" : Str)) = decide (wd w = .no) := wd_lit (by decide) (by decide +kernel)
theorem e3 (w : Str) : (w == ("note" : Str)) = decide (wd w = .note) := wd_lit (by decide) (by decide +kernel)
theorem e5 (w : Str) : (w == ("put" : Str)) = decide (wd w = .put) := wd_lit (by decide) (by decide +kernel)
theorem e9 (w : Str) : (w == ("not" : Str)) = decide (wd w = .nt) := wd_lit (by decide) (by decide +kernel)
theorem f1 (w : Str) : (("yes" : Str) == w) = decide (wd w = .yes) := lit_wd (by decide) (by decide +kernel)
theorem f2 (w : Str) : (("no" : Str) == w) = decide (wd w = .no) := lit_wd (by decide) (by decide +kernel)
theorem f3 (w : Str) : (("note" : Str) == w) = decide (wd w = .note) := lit_wd (by decide) (by decide +kernel)
theorem f4 (w : Str) : (("is" : Str) == w) = decide (wd w = .is) := lit_wd (by decide) (by decide +kernel)
theorem f5 (w : Str) : (("put" : Str) == w) = decide (wd w = .put) := lit_wd (by decide) (by decide +kernel)
theorem f6 (w : Str) : (("then" : Str) == w) = decide (wd w = .thn) := lit_wd (by decide) (by decide +kernel)
theorem f7 (w : Str) : (("either" : Str) == w) = decide (wd w = .eit) := lit_wd (by decide) (by decide +kernel)
theorem f8 (w : Str) : (("again" : Str) == w) = decide (wd w = .aga) := lit_wd (by decide) (by decide +kernel)
theorem f9 (w : Str) : (("not" : Str) == w) = decide (wd w = .nt) := lit_wd (by decide) (by decide +kernel)
/-! ### membership and the table -/
theorem in_fields (w : Str) : gIn false [.str w, .tup (t_FIELD_WORDS.map D.str)] = some (.val (.bl (decide (wd w = .is ∨ wd w = .put)))) := by
  unfold gIn t_FIELD_WORDS
  simp only [D.items, List.map_cons, List.map_nil, Option.bind_some, D.scal, List.all_cons, List.all_nil, Bool.and_self, and_self, if_true, List.any_cons, List.any_nil, D.eqF, f4, f5, Bool.or_false]
  rw [← Bool.decide_or]
  rfl
theorem in_tests (w : Str) : gIn true [.str w, .tup (t_TEST_WORDS.map D.str)] = some (.val (.bl (!decide (wd w = .yes ∨ wd w = .no ∨ wd w = .is ∨ wd w = .thn ∨ wd w = .eit ∨ wd w = .nt)))) := by
  unfold gIn t_TEST_WORDS
  simp only [D.items, List.map_cons, List.map_nil, Option.bind_some, D.scal, List.all_cons, List.all_nil, Bool.and_self, and_self, if_true, List.any_cons, List.any_nil, D.eqF, f1, f2, f4, f6, f7, f9, Bool.or_false, Bool.decide_or]
def wlen : Wd → Option Int
  | .yes => some 1
  | .no => some 1
  | .note => some 1
  | .is => some 3
  | .put => some 3
  | .thn => some 3
  | .eit => some 3
  | .aga => some 2
  | .nt => some 2
  | .oth => none
theorem tab_len (w : Str) : tabD t_LENGTHS w = match wlen (wd w) with
    | some i => .int i
    | none => .non := by
  unfold t_LENGTHS
  simp only [tabD, f1, f2, f3, f4, f5, f6, f7, f8, f9]
  cases wd w <;> rfl
theorem eq_int (a b : Int) : gEq [.int a, .int b] = some (.val (.bl (a == b))) := rfl
theorem ne_int (a b : Int) : gNe [.int a, .int b] = some (.val (.bl (!(a == b)))) := rfl
theorem ne_non (b : Int) : gNe [.non, .int b] = some (.val (.bl true)) := rfl
theorem eq_str {a b : Str} (ha : PyData.strOk a = true) (hb : PyData.strOk b = true) : gEq [.str a, .str b] = some (.val (.bl (a == b))) := by
  show (if SeqAt.shaped (.str a) = true ∧ SeqAt.shaped (.str b) = true then some (Rs.val (.bl (PyData.eqv (.str a) (.str b)))) else none) = _
  simp [SeqAt.shaped, PyData.eqv, PyData.canLay0, PyData.depth, ha, hb]
end KQ
set_option Elab.async false
set_option linter.all false
set_option maxRecDepth 100000
set_option maxHeartbeats 8000000
namespace KQ
open PySem PySem.Spec PyProof.Rows L2 Q
mutual
def lv : D → Bool
  | .non => true
  | .bl _ => true
  | .int _ => true
  | .str x => PyData.strOk x
  | .tup l => lvL l
  | .lst l => lvL l
  | _ => false
def lvL : List D → Bool
  | [] => true
  | d :: l => lv d && lvL l
end
mutual
def dep : D → Nat
  | .tup l => depL l + 1
  | .lst l => depL l + 1
  | _ => 0
def depL : List D → Nat
  | [] => 0
  | d :: l => max (dep d) (depL l)
end
def isNum : D → Bool
  | .int _ => true
  | _ => false
theorem v_is_number {d : D} (h : lv d = true) : fn_is_number [.fz d] = some (.ret (.fz (.bl (isNum d))), [.fz d]) := by
  cases d <;> first | rfl | (simp [lv] at h; done)
def blw (n : Int) : D → Bool
  | .int i => decide (0 ≤ i ∧ i < n)
  | _ => false
theorem v_is_below {d : D} (n : Int) (h : lv d = true) : fn_is_below [.fz d, .fz (.int n)] = some (.ret (.fz (.bl (blw n d))), [.fz d, .fz (.int n)]) := by
  have hn := v_is_number h
  cases d with
  | int i =>
    by_cases c : 0 ≤ i
    · simp [fn_is_below, b_is_below, fnD, dRet, xLift, dBool, dAnd, dOr, dNot, dBl, dSh, dIsi, dVar, share, T.data, D.isi, D.bool, retW, outP, keepP, dSeq, dIf, xbLift, dC, dOp, dWith, fdCons, fdNil, D.items, Rs.w, dChain, gLe, gLt, gGt, gGe, gRI0, gRI, gAdd, gSubI, dAsg, mv, gdName, dDrop, dCallX, dCall, daCons, daNil, pars, back, putBack, resW, dIfE, dNext, dRaise, dItemsT, dItemsL, dFor, dLift, W.tm, dTru, truth, isFz, dAug, gMul1, dScal, dScalT, T.frz, D.scal, dUn, gNeg, gTupD, gLstD, xNot, xBl, gIx, dSl, gSlT, pAt, pNo, dMv, gInt, dInR, hn, isNum, blw, c]
    · simp [fn_is_below, b_is_below, fnD, dRet, xLift, dBool, dAnd, dOr, dNot, dBl, dSh, dIsi, dVar, share, T.data, D.isi, D.bool, retW, outP, keepP, dSeq, dIf, xbLift, dC, dOp, dWith, fdCons, fdNil, D.items, Rs.w, dChain, gLe, gLt, gGt, gGe, gRI0, gRI, gAdd, gSubI, dAsg, mv, gdName, dDrop, dCallX, dCall, daCons, daNil, pars, back, putBack, resW, dIfE, dNext, dRaise, dItemsT, dItemsL, dFor, dLift, W.tm, dTru, truth, isFz, dAug, gMul1, dScal, dScalT, T.frz, D.scal, dUn, gNeg, gTupD, gLstD, xNot, xBl, gIx, dSl, gSlT, pAt, pNo, dMv, gInt, dInR, hn, isNum, blw, c]
  | non => simp [fn_is_below, b_is_below, fnD, dRet, xLift, dBool, dAnd, dOr, dNot, dBl, dSh, dIsi, dVar, share, T.data, D.isi, D.bool, retW, outP, keepP, dSeq, dIf, xbLift, dC, dOp, dWith, fdCons, fdNil, D.items, Rs.w, dChain, gLe, gLt, gGt, gGe, gRI0, gRI, gAdd, gSubI, dAsg, mv, gdName, dDrop, dCallX, dCall, daCons, daNil, pars, back, putBack, resW, dIfE, dNext, dRaise, dItemsT, dItemsL, dFor, dLift, W.tm, dTru, truth, isFz, dAug, gMul1, dScal, dScalT, T.frz, D.scal, dUn, gNeg, gTupD, gLstD, xNot, xBl, gIx, dSl, gSlT, pAt, pNo, dMv, gInt, dInR, hn, isNum, blw]
  | bl b => simp [fn_is_below, b_is_below, fnD, dRet, xLift, dBool, dAnd, dOr, dNot, dBl, dSh, dIsi, dVar, share, T.data, D.isi, D.bool, retW, outP, keepP, dSeq, dIf, xbLift, dC, dOp, dWith, fdCons, fdNil, D.items, Rs.w, dChain, gLe, gLt, gGt, gGe, gRI0, gRI, gAdd, gSubI, dAsg, mv, gdName, dDrop, dCallX, dCall, daCons, daNil, pars, back, putBack, resW, dIfE, dNext, dRaise, dItemsT, dItemsL, dFor, dLift, W.tm, dTru, truth, isFz, dAug, gMul1, dScal, dScalT, T.frz, D.scal, dUn, gNeg, gTupD, gLstD, xNot, xBl, gIx, dSl, gSlT, pAt, pNo, dMv, gInt, dInR, hn, isNum, blw]
  | str b => simp [fn_is_below, b_is_below, fnD, dRet, xLift, dBool, dAnd, dOr, dNot, dBl, dSh, dIsi, dVar, share, T.data, D.isi, D.bool, retW, outP, keepP, dSeq, dIf, xbLift, dC, dOp, dWith, fdCons, fdNil, D.items, Rs.w, dChain, gLe, gLt, gGt, gGe, gRI0, gRI, gAdd, gSubI, dAsg, mv, gdName, dDrop, dCallX, dCall, daCons, daNil, pars, back, putBack, resW, dIfE, dNext, dRaise, dItemsT, dItemsL, dFor, dLift, W.tm, dTru, truth, isFz, dAug, gMul1, dScal, dScalT, T.frz, D.scal, dUn, gNeg, gTupD, gLstD, xNot, xBl, gIx, dSl, gSlT, pAt, pNo, dMv, gInt, dInR, hn, isNum, blw]
  | tup b => simp [fn_is_below, b_is_below, fnD, dRet, xLift, dBool, dAnd, dOr, dNot, dBl, dSh, dIsi, dVar, share, T.data, D.isi, D.bool, retW, outP, keepP, dSeq, dIf, xbLift, dC, dOp, dWith, fdCons, fdNil, D.items, Rs.w, dChain, gLe, gLt, gGt, gGe, gRI0, gRI, gAdd, gSubI, dAsg, mv, gdName, dDrop, dCallX, dCall, daCons, daNil, pars, back, putBack, resW, dIfE, dNext, dRaise, dItemsT, dItemsL, dFor, dLift, W.tm, dTru, truth, isFz, dAug, gMul1, dScal, dScalT, T.frz, D.scal, dUn, gNeg, gTupD, gLstD, xNot, xBl, gIx, dSl, gSlT, pAt, pNo, dMv, gInt, dInR, hn, isNum, blw]
  | lst b => simp [fn_is_below, b_is_below, fnD, dRet, xLift, dBool, dAnd, dOr, dNot, dBl, dSh, dIsi, dVar, share, T.data, D.isi, D.bool, retW, outP, keepP, dSeq, dIf, xbLift, dC, dOp, dWith, fdCons, fdNil, D.items, Rs.w, dChain, gLe, gLt, gGt, gGe, gRI0, gRI, gAdd, gSubI, dAsg, mv, gdName, dDrop, dCallX, dCall, daCons, daNil, pars, back, putBack, resW, dIfE, dNext, dRaise, dItemsT, dItemsL, dFor, dLift, W.tm, dTru, truth, isFz, dAug, gMul1, dScal, dScalT, T.frz, D.scal, dUn, gNeg, gTupD, gLstD, xNot, xBl, gIx, dSl, gSlT, pAt, pNo, dMv, gInt, dInR, hn, isNum, blw]
  | _ => simp [lv] at h
def vOK (sh : List D) : List D → Bool
  | [.int i, b] => decide (0 ≤ i) && (match sh[i.toNat]? with
    | some (.int n) => blw n b
    | _ => false)
  | _ => false
def hpf (sh : List D) : D → Bool
  | .tup (.str w :: l) => match wd w with
    | .yes => l.length == 0
    | .no => l.length == 0
    | .note => l.length == 0
    | .is => vOK sh l
    | .put => vOK sh l
    | .thn => l.length == 2
    | .eit => l.length == 2
    | .aga => l.length == 1
    | .nt => l.length == 1
    | .oth => false
  | _ => false
def shI (sh : List D) : Prop := ∀ x ∈ sh, ∃ n : Int, x = .int n
theorem len_cons (x : D) (l : List D) : gLen [.tup (x :: l)] = some (.val (.int (l.length + 1))) := rfl
theorem len_tup (l : List D) : gLen [.tup l] = some (.val (.int l.length)) := rfl
theorem at0 (x : D) (l : List D) : atI (x :: l) 0 = some x := by simp [atI, ixN]
theorem at1 (x y : D) (l : List D) : atI (x :: y :: l) 1 = some y := by
  have : (1 : Int) < (l.length : Int) + 1 + 1 := by omega
  simp [atI, ixN, this]
theorem at2 (x y z : D) (l : List D) : atI (x :: y :: z :: l) 2 = some z := by
  have : (2 : Int) < (l.length : Int) + 1 + 1 + 1 := by omega
  simp [atI, ixN, this]
theorem atN {l : List D} {i : Int} (h : 0 ≤ i) (h2 : i < l.length) : atI l i = l[i.toNat]? := by
  simp [atI, ixN, h, h2]
theorem hpf_word {sh : List D} {w : Str} {l : List D} (hs : shI sh) (hw : PyData.strOk w = true) (hl : lvL l = true) : fn_has_part_form [.fz (.tup sh), .fz (.tup (.str w :: l))] = some (.ret (.fz (.bl (hpf sh (.tup (.str w :: l))))), [.fz (.tup sh), .fz (.tup (.str w :: l))]) := by
  have n0 : ((l.length : Int) + 1 == 0) = false := by simp; omega
  have key : b_has_part_form [.fz (.tup sh), .fz (.tup (.str w :: l)), .un] = some (.rt (.sh (.bl (hpf sh (.tup (.str w :: l))))) [.fz (.tup sh), .fz (.tup (.str w :: l)), .fz (.str w)]) := by
    by_cases c : wd w = .is ∨ wd w = .put
    · have hl3 : wlen (wd w) = some 3 := by rcases c with c | c <;> rw [c] <;> rfl
      have hh : hpf sh (.tup (.str w :: l)) = vOK sh l := by rcases c with c | c <;> simp [hpf, c]
      rw [hh]
      by_cases c3 : l.length = 2
      · obtain ⟨a, b, rfl⟩ : ∃ a b, l = [a, b] := by
          match l, c3 with
          | [a, b], _ => exact ⟨a, b, rfl⟩
        simp only [lvL, Bool.and_eq_true] at hl
        have ha := v_is_below (sh.length : Int) hl.1
        cases a with
        | int i =>
          by_cases d : 0 ≤ i ∧ i < sh.length
          · have hi : i.toNat < sh.length := by omega
            obtain ⟨n, hn⟩ := hs sh[i.toNat] (List.getElem_mem hi)
            have hb := v_is_below n hl.2.1
            have hat := atN d.1 d.2
            rw [List.getElem?_eq_getElem hi, hn] at hat
            have g : sh[i.toNat]? = some (.int n) := by rw [List.getElem?_eq_getElem hi, hn]
            simp [b_has_part_form, fnD, dRet, xLift, dBool, dAnd, dOr, dNot, dBl, dSh, dIsi, dVar, share, T.data, D.isi, D.bool, retW, outP, keepP, dSeq, dIf, xbLift, dC, dOp, dWith, fdCons, fdNil, D.items, Rs.w, dChain, gLe, gLt, gGt, gGe, gRI0, gRI, gAdd, gSubI, dAsg, mv, gdName, dDrop, dCallX, dCall, daCons, daNil, pars, back, putBack, resW, dIfE, dNext, dRaise, dItemsT, dItemsL, dFor, dLift, W.tm, dTru, truth, isFz, dAug, gMul1, dScal, dScalT, T.frz, D.scal, dUn, gNeg, gTupD, gLstD, xNot, xBl, gIx, dSl, gSlT, pAt, pNo, dMv, gInt, dInR, len_tup, eq_int, ne_int, at0, at1, at2, gKGet, tab_len, hl3, in_fields, c, ha, hb, blw, d, vOK, hat, hi, hn]
          · have v : vOK sh [.int i, b] = false := by
              by_cases d0 : 0 ≤ i
              · have : sh[i.toNat]? = none := List.getElem?_eq_none (by omega)
                simp [vOK, this]
              · simp [vOK, d0]
            simp [b_has_part_form, fnD, dRet, xLift, dBool, dAnd, dOr, dNot, dBl, dSh, dIsi, dVar, share, T.data, D.isi, D.bool, retW, outP, keepP, dSeq, dIf, xbLift, dC, dOp, dWith, fdCons, fdNil, D.items, Rs.w, dChain, gLe, gLt, gGt, gGe, gRI0, gRI, gAdd, gSubI, dAsg, mv, gdName, dDrop, dCallX, dCall, daCons, daNil, pars, back, putBack, resW, dIfE, dNext, dRaise, dItemsT, dItemsL, dFor, dLift, W.tm, dTru, truth, isFz, dAug, gMul1, dScal, dScalT, T.frz, D.scal, dUn, gNeg, gTupD, gLstD, xNot, xBl, gIx, dSl, gSlT, pAt, pNo, dMv, gInt, dInR, len_tup, eq_int, ne_int, at0, at1, at2, gKGet, tab_len, hl3, in_fields, c, ha, blw, d, v]
        | _ => simp [b_has_part_form, fnD, dRet, xLift, dBool, dAnd, dOr, dNot, dBl, dSh, dIsi, dVar, share, T.data, D.isi, D.bool, retW, outP, keepP, dSeq, dIf, xbLift, dC, dOp, dWith, fdCons, fdNil, D.items, Rs.w, dChain, gLe, gLt, gGt, gGe, gRI0, gRI, gAdd, gSubI, dAsg, mv, gdName, dDrop, dCallX, dCall, daCons, daNil, pars, back, putBack, resW, dIfE, dNext, dRaise, dItemsT, dItemsL, dFor, dLift, W.tm, dTru, truth, isFz, dAug, gMul1, dScal, dScalT, T.frz, D.scal, dUn, gNeg, gTupD, gLstD, xNot, xBl, gIx, dSl, gSlT, pAt, pNo, dMv, gInt, dInR, len_tup, eq_int, ne_int, at0, at1, at2, gKGet, tab_len, hl3, in_fields, c, ha, blw, vOK]
      · have n3 : ((3 : Int) == (l.length : Int) + 1) = false := by simp; omega
        have v : vOK sh l = false := by
          unfold vOK
          split
          · simp at c3
          · rfl
        simp [b_has_part_form, fnD, dRet, xLift, dBool, dAnd, dOr, dNot, dBl, dSh, dIsi, dVar, share, T.data, D.isi, D.bool, retW, outP, keepP, dSeq, dIf, xbLift, dC, dOp, dWith, fdCons, fdNil, D.items, Rs.w, dChain, gLe, gLt, gGt, gGe, gRI0, gRI, gAdd, gSubI, dAsg, mv, gdName, dDrop, dCallX, dCall, daCons, daNil, pars, back, putBack, resW, dIfE, dNext, dRaise, dItemsT, dItemsL, dFor, dLift, W.tm, dTru, truth, isFz, dAug, gMul1, dScal, dScalT, T.frz, D.scal, dUn, gNeg, gTupD, gLstD, xNot, xBl, gIx, dSl, gSlT, pAt, pNo, dMv, gInt, dInR, len_cons, eq_int, ne_int, n0, n3, at0, gKGet, tab_len, hl3, v]
    · have cc : decide (wd w = .is ∨ wd w = .put) = false := decide_eq_false c
      cases e : wd w with
      | is => exact absurd (Or.inl e) c
      | put => exact absurd (Or.inr e) c
      | oth => simp [b_has_part_form, fnD, dRet, xLift, dBool, dAnd, dOr, dNot, dBl, dSh, dIsi, dVar, share, T.data, D.isi, D.bool, retW, outP, keepP, dSeq, dIf, xbLift, dC, dOp, dWith, fdCons, fdNil, D.items, Rs.w, dChain, gLe, gLt, gGt, gGe, gRI0, gRI, gAdd, gSubI, dAsg, mv, gdName, dDrop, dCallX, dCall, daCons, daNil, pars, back, putBack, resW, dIfE, dNext, dRaise, dItemsT, dItemsL, dFor, dLift, W.tm, dTru, truth, isFz, dAug, gMul1, dScal, dScalT, T.frz, D.scal, dUn, gNeg, gTupD, gLstD, xNot, xBl, gIx, dSl, gSlT, pAt, pNo, dMv, gInt, dInR, len_cons, eq_int, ne_int, ne_non, n0, at0, gKGet, tab_len, e, wlen, hpf]
      | yes =>
        by_cases c3 : l.length = 0
        · simp [b_has_part_form, fnD, dRet, xLift, dBool, dAnd, dOr, dNot, dBl, dSh, dIsi, dVar, share, T.data, D.isi, D.bool, retW, outP, keepP, dSeq, dIf, xbLift, dC, dOp, dWith, fdCons, fdNil, D.items, Rs.w, dChain, gLe, gLt, gGt, gGe, gRI0, gRI, gAdd, gSubI, dAsg, mv, gdName, dDrop, dCallX, dCall, daCons, daNil, pars, back, putBack, resW, dIfE, dNext, dRaise, dItemsT, dItemsL, dFor, dLift, W.tm, dTru, truth, isFz, dAug, gMul1, dScal, dScalT, T.frz, D.scal, dUn, gNeg, gTupD, gLstD, xNot, xBl, gIx, dSl, gSlT, pAt, pNo, dMv, gInt, dInR, len_cons, eq_int, ne_int, n0, at0, gKGet, tab_len, e, wlen, hpf, c3, in_fields, List.length_eq_zero_iff.mp c3]
        · have n3 : ((1 : Int) == (l.length : Int) + 1) = false := by simp; omega
          have c4 : ¬ l = [] := fun z => c3 (by rw [z]; rfl)
          simp [b_has_part_form, fnD, dRet, xLift, dBool, dAnd, dOr, dNot, dBl, dSh, dIsi, dVar, share, T.data, D.isi, D.bool, retW, outP, keepP, dSeq, dIf, xbLift, dC, dOp, dWith, fdCons, fdNil, D.items, Rs.w, dChain, gLe, gLt, gGt, gGe, gRI0, gRI, gAdd, gSubI, dAsg, mv, gdName, dDrop, dCallX, dCall, daCons, daNil, pars, back, putBack, resW, dIfE, dNext, dRaise, dItemsT, dItemsL, dFor, dLift, W.tm, dTru, truth, isFz, dAug, gMul1, dScal, dScalT, T.frz, D.scal, dUn, gNeg, gTupD, gLstD, xNot, xBl, gIx, dSl, gSlT, pAt, pNo, dMv, gInt, dInR, len_cons, eq_int, ne_int, n0, n3, at0, gKGet, tab_len, e, wlen, hpf, c3, c4]
      | no =>
        by_cases c3 : l.length = 0
        · simp [b_has_part_form, fnD, dRet, xLift, dBool, dAnd, dOr, dNot, dBl, dSh, dIsi, dVar, share, T.data, D.isi, D.bool, retW, outP, keepP, dSeq, dIf, xbLift, dC, dOp, dWith, fdCons, fdNil, D.items, Rs.w, dChain, gLe, gLt, gGt, gGe, gRI0, gRI, gAdd, gSubI, dAsg, mv, gdName, dDrop, dCallX, dCall, daCons, daNil, pars, back, putBack, resW, dIfE, dNext, dRaise, dItemsT, dItemsL, dFor, dLift, W.tm, dTru, truth, isFz, dAug, gMul1, dScal, dScalT, T.frz, D.scal, dUn, gNeg, gTupD, gLstD, xNot, xBl, gIx, dSl, gSlT, pAt, pNo, dMv, gInt, dInR, len_cons, eq_int, ne_int, n0, at0, gKGet, tab_len, e, wlen, hpf, c3, in_fields, List.length_eq_zero_iff.mp c3]
        · have n3 : ((1 : Int) == (l.length : Int) + 1) = false := by simp; omega
          have c4 : ¬ l = [] := fun z => c3 (by rw [z]; rfl)
          simp [b_has_part_form, fnD, dRet, xLift, dBool, dAnd, dOr, dNot, dBl, dSh, dIsi, dVar, share, T.data, D.isi, D.bool, retW, outP, keepP, dSeq, dIf, xbLift, dC, dOp, dWith, fdCons, fdNil, D.items, Rs.w, dChain, gLe, gLt, gGt, gGe, gRI0, gRI, gAdd, gSubI, dAsg, mv, gdName, dDrop, dCallX, dCall, daCons, daNil, pars, back, putBack, resW, dIfE, dNext, dRaise, dItemsT, dItemsL, dFor, dLift, W.tm, dTru, truth, isFz, dAug, gMul1, dScal, dScalT, T.frz, D.scal, dUn, gNeg, gTupD, gLstD, xNot, xBl, gIx, dSl, gSlT, pAt, pNo, dMv, gInt, dInR, len_cons, eq_int, ne_int, n0, n3, at0, gKGet, tab_len, e, wlen, hpf, c3, c4]
      | note =>
        by_cases c3 : l.length = 0
        · simp [b_has_part_form, fnD, dRet, xLift, dBool, dAnd, dOr, dNot, dBl, dSh, dIsi, dVar, share, T.data, D.isi, D.bool, retW, outP, keepP, dSeq, dIf, xbLift, dC, dOp, dWith, fdCons, fdNil, D.items, Rs.w, dChain, gLe, gLt, gGt, gGe, gRI0, gRI, gAdd, gSubI, dAsg, mv, gdName, dDrop, dCallX, dCall, daCons, daNil, pars, back, putBack, resW, dIfE, dNext, dRaise, dItemsT, dItemsL, dFor, dLift, W.tm, dTru, truth, isFz, dAug, gMul1, dScal, dScalT, T.frz, D.scal, dUn, gNeg, gTupD, gLstD, xNot, xBl, gIx, dSl, gSlT, pAt, pNo, dMv, gInt, dInR, len_cons, eq_int, ne_int, n0, at0, gKGet, tab_len, e, wlen, hpf, c3, in_fields, List.length_eq_zero_iff.mp c3]
        · have n3 : ((1 : Int) == (l.length : Int) + 1) = false := by simp; omega
          have c4 : ¬ l = [] := fun z => c3 (by rw [z]; rfl)
          simp [b_has_part_form, fnD, dRet, xLift, dBool, dAnd, dOr, dNot, dBl, dSh, dIsi, dVar, share, T.data, D.isi, D.bool, retW, outP, keepP, dSeq, dIf, xbLift, dC, dOp, dWith, fdCons, fdNil, D.items, Rs.w, dChain, gLe, gLt, gGt, gGe, gRI0, gRI, gAdd, gSubI, dAsg, mv, gdName, dDrop, dCallX, dCall, daCons, daNil, pars, back, putBack, resW, dIfE, dNext, dRaise, dItemsT, dItemsL, dFor, dLift, W.tm, dTru, truth, isFz, dAug, gMul1, dScal, dScalT, T.frz, D.scal, dUn, gNeg, gTupD, gLstD, xNot, xBl, gIx, dSl, gSlT, pAt, pNo, dMv, gInt, dInR, len_cons, eq_int, ne_int, n0, n3, at0, gKGet, tab_len, e, wlen, hpf, c3, c4]
      | thn =>
        by_cases c3 : l.length = 2
        · simp [b_has_part_form, fnD, dRet, xLift, dBool, dAnd, dOr, dNot, dBl, dSh, dIsi, dVar, share, T.data, D.isi, D.bool, retW, outP, keepP, dSeq, dIf, xbLift, dC, dOp, dWith, fdCons, fdNil, D.items, Rs.w, dChain, gLe, gLt, gGt, gGe, gRI0, gRI, gAdd, gSubI, dAsg, mv, gdName, dDrop, dCallX, dCall, daCons, daNil, pars, back, putBack, resW, dIfE, dNext, dRaise, dItemsT, dItemsL, dFor, dLift, W.tm, dTru, truth, isFz, dAug, gMul1, dScal, dScalT, T.frz, D.scal, dUn, gNeg, gTupD, gLstD, xNot, xBl, gIx, dSl, gSlT, pAt, pNo, dMv, gInt, dInR, len_cons, eq_int, ne_int, n0, at0, gKGet, tab_len, e, wlen, hpf, c3, in_fields]
        · have n3 : ((3 : Int) == (l.length : Int) + 1) = false := by simp; omega
          simp [b_has_part_form, fnD, dRet, xLift, dBool, dAnd, dOr, dNot, dBl, dSh, dIsi, dVar, share, T.data, D.isi, D.bool, retW, outP, keepP, dSeq, dIf, xbLift, dC, dOp, dWith, fdCons, fdNil, D.items, Rs.w, dChain, gLe, gLt, gGt, gGe, gRI0, gRI, gAdd, gSubI, dAsg, mv, gdName, dDrop, dCallX, dCall, daCons, daNil, pars, back, putBack, resW, dIfE, dNext, dRaise, dItemsT, dItemsL, dFor, dLift, W.tm, dTru, truth, isFz, dAug, gMul1, dScal, dScalT, T.frz, D.scal, dUn, gNeg, gTupD, gLstD, xNot, xBl, gIx, dSl, gSlT, pAt, pNo, dMv, gInt, dInR, len_cons, eq_int, ne_int, n0, n3, at0, gKGet, tab_len, e, wlen, hpf, c3]
      | eit =>
        by_cases c3 : l.length = 2
        · simp [b_has_part_form, fnD, dRet, xLift, dBool, dAnd, dOr, dNot, dBl, dSh, dIsi, dVar, share, T.data, D.isi, D.bool, retW, outP, keepP, dSeq, dIf, xbLift, dC, dOp, dWith, fdCons, fdNil, D.items, Rs.w, dChain, gLe, gLt, gGt, gGe, gRI0, gRI, gAdd, gSubI, dAsg, mv, gdName, dDrop, dCallX, dCall, daCons, daNil, pars, back, putBack, resW, dIfE, dNext, dRaise, dItemsT, dItemsL, dFor, dLift, W.tm, dTru, truth, isFz, dAug, gMul1, dScal, dScalT, T.frz, D.scal, dUn, gNeg, gTupD, gLstD, xNot, xBl, gIx, dSl, gSlT, pAt, pNo, dMv, gInt, dInR, len_cons, eq_int, ne_int, n0, at0, gKGet, tab_len, e, wlen, hpf, c3, in_fields]
        · have n3 : ((3 : Int) == (l.length : Int) + 1) = false := by simp; omega
          simp [b_has_part_form, fnD, dRet, xLift, dBool, dAnd, dOr, dNot, dBl, dSh, dIsi, dVar, share, T.data, D.isi, D.bool, retW, outP, keepP, dSeq, dIf, xbLift, dC, dOp, dWith, fdCons, fdNil, D.items, Rs.w, dChain, gLe, gLt, gGt, gGe, gRI0, gRI, gAdd, gSubI, dAsg, mv, gdName, dDrop, dCallX, dCall, daCons, daNil, pars, back, putBack, resW, dIfE, dNext, dRaise, dItemsT, dItemsL, dFor, dLift, W.tm, dTru, truth, isFz, dAug, gMul1, dScal, dScalT, T.frz, D.scal, dUn, gNeg, gTupD, gLstD, xNot, xBl, gIx, dSl, gSlT, pAt, pNo, dMv, gInt, dInR, len_cons, eq_int, ne_int, n0, n3, at0, gKGet, tab_len, e, wlen, hpf, c3]
      | aga =>
        by_cases c3 : l.length = 1
        · simp [b_has_part_form, fnD, dRet, xLift, dBool, dAnd, dOr, dNot, dBl, dSh, dIsi, dVar, share, T.data, D.isi, D.bool, retW, outP, keepP, dSeq, dIf, xbLift, dC, dOp, dWith, fdCons, fdNil, D.items, Rs.w, dChain, gLe, gLt, gGt, gGe, gRI0, gRI, gAdd, gSubI, dAsg, mv, gdName, dDrop, dCallX, dCall, daCons, daNil, pars, back, putBack, resW, dIfE, dNext, dRaise, dItemsT, dItemsL, dFor, dLift, W.tm, dTru, truth, isFz, dAug, gMul1, dScal, dScalT, T.frz, D.scal, dUn, gNeg, gTupD, gLstD, xNot, xBl, gIx, dSl, gSlT, pAt, pNo, dMv, gInt, dInR, len_cons, eq_int, ne_int, n0, at0, gKGet, tab_len, e, wlen, hpf, c3, in_fields]
        · have n3 : ((2 : Int) == (l.length : Int) + 1) = false := by simp; omega
          simp [b_has_part_form, fnD, dRet, xLift, dBool, dAnd, dOr, dNot, dBl, dSh, dIsi, dVar, share, T.data, D.isi, D.bool, retW, outP, keepP, dSeq, dIf, xbLift, dC, dOp, dWith, fdCons, fdNil, D.items, Rs.w, dChain, gLe, gLt, gGt, gGe, gRI0, gRI, gAdd, gSubI, dAsg, mv, gdName, dDrop, dCallX, dCall, daCons, daNil, pars, back, putBack, resW, dIfE, dNext, dRaise, dItemsT, dItemsL, dFor, dLift, W.tm, dTru, truth, isFz, dAug, gMul1, dScal, dScalT, T.frz, D.scal, dUn, gNeg, gTupD, gLstD, xNot, xBl, gIx, dSl, gSlT, pAt, pNo, dMv, gInt, dInR, len_cons, eq_int, ne_int, n0, n3, at0, gKGet, tab_len, e, wlen, hpf, c3]
      | nt =>
        by_cases c3 : l.length = 1
        · simp [b_has_part_form, fnD, dRet, xLift, dBool, dAnd, dOr, dNot, dBl, dSh, dIsi, dVar, share, T.data, D.isi, D.bool, retW, outP, keepP, dSeq, dIf, xbLift, dC, dOp, dWith, fdCons, fdNil, D.items, Rs.w, dChain, gLe, gLt, gGt, gGe, gRI0, gRI, gAdd, gSubI, dAsg, mv, gdName, dDrop, dCallX, dCall, daCons, daNil, pars, back, putBack, resW, dIfE, dNext, dRaise, dItemsT, dItemsL, dFor, dLift, W.tm, dTru, truth, isFz, dAug, gMul1, dScal, dScalT, T.frz, D.scal, dUn, gNeg, gTupD, gLstD, xNot, xBl, gIx, dSl, gSlT, pAt, pNo, dMv, gInt, dInR, len_cons, eq_int, ne_int, n0, at0, gKGet, tab_len, e, wlen, hpf, c3, in_fields]
        · have n3 : ((2 : Int) == (l.length : Int) + 1) = false := by simp; omega
          simp [b_has_part_form, fnD, dRet, xLift, dBool, dAnd, dOr, dNot, dBl, dSh, dIsi, dVar, share, T.data, D.isi, D.bool, retW, outP, keepP, dSeq, dIf, xbLift, dC, dOp, dWith, fdCons, fdNil, D.items, Rs.w, dChain, gLe, gLt, gGt, gGe, gRI0, gRI, gAdd, gSubI, dAsg, mv, gdName, dDrop, dCallX, dCall, daCons, daNil, pars, back, putBack, resW, dIfE, dNext, dRaise, dItemsT, dItemsL, dFor, dLift, W.tm, dTru, truth, isFz, dAug, gMul1, dScal, dScalT, T.frz, D.scal, dUn, gNeg, gTupD, gLstD, xNot, xBl, gIx, dSl, gSlT, pAt, pNo, dMv, gInt, dInR, len_cons, eq_int, ne_int, n0, n3, at0, gKGet, tab_len, e, wlen, hpf, c3]
  exact (fn_rt (by rfl) key (by simp)).trans (by simp [outP])
theorem v_has_part_form {sh : List D} {d : D} (hs : shI sh) (h : lv d = true) : fn_has_part_form [.fz (.tup sh), .fz d] = some (.ret (.fz (.bl (hpf sh d))), [.fz (.tup sh), .fz d]) := by
  cases d with
  | tup l =>
    cases l with
    | nil => simp [fn_has_part_form, b_has_part_form, fnD, dRet, xLift, dBool, dAnd, dOr, dNot, dBl, dSh, dIsi, dVar, share, T.data, D.isi, D.bool, retW, outP, keepP, dSeq, dIf, xbLift, dC, dOp, dWith, fdCons, fdNil, D.items, Rs.w, dChain, gLe, gLt, gGt, gGe, gRI0, gRI, gAdd, gSubI, dAsg, mv, gdName, dDrop, dCallX, dCall, daCons, daNil, pars, back, putBack, resW, dIfE, dNext, dRaise, dItemsT, dItemsL, dFor, dLift, W.tm, dTru, truth, isFz, dAug, gMul1, dScal, dScalT, T.frz, D.scal, dUn, gNeg, gTupD, gLstD, xNot, xBl, gIx, dSl, gSlT, pAt, pNo, dMv, gInt, dInR, len_tup, eq_int, hpf]
    | cons x l =>
      have n0 : ((l.length : Int) + 1 == 0) = false := by simp; omega
      simp only [lv, lvL, Bool.and_eq_true] at h
      cases x with
      | str w => exact hpf_word hs (by simpa [lv] using h.1) h.2
      | non => simp [fn_has_part_form, b_has_part_form, fnD, dRet, xLift, dBool, dAnd, dOr, dNot, dBl, dSh, dIsi, dVar, share, T.data, D.isi, D.bool, retW, outP, keepP, dSeq, dIf, xbLift, dC, dOp, dWith, fdCons, fdNil, D.items, Rs.w, dChain, gLe, gLt, gGt, gGe, gRI0, gRI, gAdd, gSubI, dAsg, mv, gdName, dDrop, dCallX, dCall, daCons, daNil, pars, back, putBack, resW, dIfE, dNext, dRaise, dItemsT, dItemsL, dFor, dLift, W.tm, dTru, truth, isFz, dAug, gMul1, dScal, dScalT, T.frz, D.scal, dUn, gNeg, gTupD, gLstD, xNot, xBl, gIx, dSl, gSlT, pAt, pNo, dMv, gInt, dInR, len_cons, eq_int, n0, at0, hpf]
      | bl b => simp [fn_has_part_form, b_has_part_form, fnD, dRet, xLift, dBool, dAnd, dOr, dNot, dBl, dSh, dIsi, dVar, share, T.data, D.isi, D.bool, retW, outP, keepP, dSeq, dIf, xbLift, dC, dOp, dWith, fdCons, fdNil, D.items, Rs.w, dChain, gLe, gLt, gGt, gGe, gRI0, gRI, gAdd, gSubI, dAsg, mv, gdName, dDrop, dCallX, dCall, daCons, daNil, pars, back, putBack, resW, dIfE, dNext, dRaise, dItemsT, dItemsL, dFor, dLift, W.tm, dTru, truth, isFz, dAug, gMul1, dScal, dScalT, T.frz, D.scal, dUn, gNeg, gTupD, gLstD, xNot, xBl, gIx, dSl, gSlT, pAt, pNo, dMv, gInt, dInR, len_cons, eq_int, n0, at0, hpf]
      | int b => simp [fn_has_part_form, b_has_part_form, fnD, dRet, xLift, dBool, dAnd, dOr, dNot, dBl, dSh, dIsi, dVar, share, T.data, D.isi, D.bool, retW, outP, keepP, dSeq, dIf, xbLift, dC, dOp, dWith, fdCons, fdNil, D.items, Rs.w, dChain, gLe, gLt, gGt, gGe, gRI0, gRI, gAdd, gSubI, dAsg, mv, gdName, dDrop, dCallX, dCall, daCons, daNil, pars, back, putBack, resW, dIfE, dNext, dRaise, dItemsT, dItemsL, dFor, dLift, W.tm, dTru, truth, isFz, dAug, gMul1, dScal, dScalT, T.frz, D.scal, dUn, gNeg, gTupD, gLstD, xNot, xBl, gIx, dSl, gSlT, pAt, pNo, dMv, gInt, dInR, len_cons, eq_int, n0, at0, hpf]
      | tup b => simp [fn_has_part_form, b_has_part_form, fnD, dRet, xLift, dBool, dAnd, dOr, dNot, dBl, dSh, dIsi, dVar, share, T.data, D.isi, D.bool, retW, outP, keepP, dSeq, dIf, xbLift, dC, dOp, dWith, fdCons, fdNil, D.items, Rs.w, dChain, gLe, gLt, gGt, gGe, gRI0, gRI, gAdd, gSubI, dAsg, mv, gdName, dDrop, dCallX, dCall, daCons, daNil, pars, back, putBack, resW, dIfE, dNext, dRaise, dItemsT, dItemsL, dFor, dLift, W.tm, dTru, truth, isFz, dAug, gMul1, dScal, dScalT, T.frz, D.scal, dUn, gNeg, gTupD, gLstD, xNot, xBl, gIx, dSl, gSlT, pAt, pNo, dMv, gInt, dInR, len_cons, eq_int, n0, at0, hpf]
      | lst b => simp [fn_has_part_form, b_has_part_form, fnD, dRet, xLift, dBool, dAnd, dOr, dNot, dBl, dSh, dIsi, dVar, share, T.data, D.isi, D.bool, retW, outP, keepP, dSeq, dIf, xbLift, dC, dOp, dWith, fdCons, fdNil, D.items, Rs.w, dChain, gLe, gLt, gGt, gGe, gRI0, gRI, gAdd, gSubI, dAsg, mv, gdName, dDrop, dCallX, dCall, daCons, daNil, pars, back, putBack, resW, dIfE, dNext, dRaise, dItemsT, dItemsL, dFor, dLift, W.tm, dTru, truth, isFz, dAug, gMul1, dScal, dScalT, T.frz, D.scal, dUn, gNeg, gTupD, gLstD, xNot, xBl, gIx, dSl, gSlT, pAt, pNo, dMv, gInt, dInR, len_cons, eq_int, n0, at0, hpf]
      | _ => simp [lv] at h
  | non => simp [fn_has_part_form, b_has_part_form, fnD, dRet, xLift, dBool, dAnd, dOr, dNot, dBl, dSh, dIsi, dVar, share, T.data, D.isi, D.bool, retW, outP, keepP, dSeq, dIf, xbLift, dC, dOp, dWith, fdCons, fdNil, D.items, Rs.w, dChain, gLe, gLt, gGt, gGe, gRI0, gRI, gAdd, gSubI, dAsg, mv, gdName, dDrop, dCallX, dCall, daCons, daNil, pars, back, putBack, resW, dIfE, dNext, dRaise, dItemsT, dItemsL, dFor, dLift, W.tm, dTru, truth, isFz, dAug, gMul1, dScal, dScalT, T.frz, D.scal, dUn, gNeg, gTupD, gLstD, xNot, xBl, gIx, dSl, gSlT, pAt, pNo, dMv, gInt, dInR, hpf]
  | bl b => simp [fn_has_part_form, b_has_part_form, fnD, dRet, xLift, dBool, dAnd, dOr, dNot, dBl, dSh, dIsi, dVar, share, T.data, D.isi, D.bool, retW, outP, keepP, dSeq, dIf, xbLift, dC, dOp, dWith, fdCons, fdNil, D.items, Rs.w, dChain, gLe, gLt, gGt, gGe, gRI0, gRI, gAdd, gSubI, dAsg, mv, gdName, dDrop, dCallX, dCall, daCons, daNil, pars, back, putBack, resW, dIfE, dNext, dRaise, dItemsT, dItemsL, dFor, dLift, W.tm, dTru, truth, isFz, dAug, gMul1, dScal, dScalT, T.frz, D.scal, dUn, gNeg, gTupD, gLstD, xNot, xBl, gIx, dSl, gSlT, pAt, pNo, dMv, gInt, dInR, hpf]
  | int b => simp [fn_has_part_form, b_has_part_form, fnD, dRet, xLift, dBool, dAnd, dOr, dNot, dBl, dSh, dIsi, dVar, share, T.data, D.isi, D.bool, retW, outP, keepP, dSeq, dIf, xbLift, dC, dOp, dWith, fdCons, fdNil, D.items, Rs.w, dChain, gLe, gLt, gGt, gGe, gRI0, gRI, gAdd, gSubI, dAsg, mv, gdName, dDrop, dCallX, dCall, daCons, daNil, pars, back, putBack, resW, dIfE, dNext, dRaise, dItemsT, dItemsL, dFor, dLift, W.tm, dTru, truth, isFz, dAug, gMul1, dScal, dScalT, T.frz, D.scal, dUn, gNeg, gTupD, gLstD, xNot, xBl, gIx, dSl, gSlT, pAt, pNo, dMv, gInt, dInR, hpf]
  | str b => simp [fn_has_part_form, b_has_part_form, fnD, dRet, xLift, dBool, dAnd, dOr, dNot, dBl, dSh, dIsi, dVar, share, T.data, D.isi, D.bool, retW, outP, keepP, dSeq, dIf, xbLift, dC, dOp, dWith, fdCons, fdNil, D.items, Rs.w, dChain, gLe, gLt, gGt, gGe, gRI0, gRI, gAdd, gSubI, dAsg, mv, gdName, dDrop, dCallX, dCall, daCons, daNil, pars, back, putBack, resW, dIfE, dNext, dRaise, dItemsT, dItemsL, dFor, dLift, W.tm, dTru, truth, isFz, dAug, gMul1, dScal, dScalT, T.frz, D.scal, dUn, gNeg, gTupD, gLstD, xNot, xBl, gIx, dSl, gSlT, pAt, pNo, dMv, gInt, dInR, hpf]
  | lst b => simp [fn_has_part_form, b_has_part_form, fnD, dRet, xLift, dBool, dAnd, dOr, dNot, dBl, dSh, dIsi, dVar, share, T.data, D.isi, D.bool, retW, outP, keepP, dSeq, dIf, xbLift, dC, dOp, dWith, fdCons, fdNil, D.items, Rs.w, dChain, gLe, gLt, gGt, gGe, gRI0, gRI, gAdd, gSubI, dAsg, mv, gdName, dDrop, dCallX, dCall, daCons, daNil, pars, back, putBack, resW, dIfE, dNext, dRaise, dItemsT, dItemsL, dFor, dLift, W.tm, dTru, truth, isFz, dAug, gMul1, dScal, dScalT, T.frz, D.scal, dUn, gNeg, gTupD, gLstD, xNot, xBl, gIx, dSl, gSlT, pAt, pNo, dMv, gInt, dInR, hpf]
  | _ => simp [lv] at h
def inn : D → List D
  | .tup (.str w :: l) => if wd w = .is ∨ wd w = .put then [] else l
  | _ => []
theorem cut1 (x : D) (l : List D) : Q.cutD (x :: l) (some 1) none = l := by
  unfold Q.cutD
  rw [show HT.sIx (x :: l).length 0 (some 1) = 1 by simp [HT.sIx], HT.sIx_none]
  simp
theorem v_inner_parts {w : Str} {l : List D} : fn_inner_parts [.fz (.tup (.str w :: l))] = some (.ret (.fz (.tup (inn (.tup (.str w :: l))))), [.fz (.tup (.str w :: l))]) := by
  by_cases c : wd w = .is ∨ wd w = .put
  · simp [fn_inner_parts, b_inner_parts, fnD, dRet, xLift, dBool, dAnd, dOr, dNot, dBl, dSh, dIsi, dVar, share, T.data, D.isi, D.bool, retW, outP, keepP, dSeq, dIf, xbLift, dC, dOp, dWith, fdCons, fdNil, D.items, Rs.w, dChain, gLe, gLt, gGt, gGe, gRI0, gRI, gAdd, gSubI, dAsg, mv, gdName, dDrop, dCallX, dCall, daCons, daNil, pars, back, putBack, resW, dIfE, dNext, dRaise, dItemsT, dItemsL, dFor, dLift, W.tm, dTru, truth, isFz, dAug, gMul1, dScal, dScalT, T.frz, D.scal, dUn, gNeg, gTupD, gLstD, xNot, xBl, gIx, dSl, gSlT, pAt, pNo, dMv, gInt, dInR, at0, in_fields, c, inn]
  · simp [fn_inner_parts, b_inner_parts, fnD, dRet, xLift, dBool, dAnd, dOr, dNot, dBl, dSh, dIsi, dVar, share, T.data, D.isi, D.bool, retW, outP, keepP, dSeq, dIf, xbLift, dC, dOp, dWith, fdCons, fdNil, D.items, Rs.w, dChain, gLe, gLt, gGt, gGe, gRI0, gRI, gAdd, gSubI, dAsg, mv, gdName, dDrop, dCallX, dCall, daCons, daNil, pars, back, putBack, resW, dIfE, dNext, dRaise, dItemsT, dItemsL, dFor, dLift, W.tm, dTru, truth, isFz, dAug, gMul1, dScal, dScalT, T.frz, D.scal, dUn, gNeg, gTupD, gLstD, xNot, xBl, gIx, dSl, gSlT, pAt, pNo, dMv, gInt, dInR, at0, in_fields, c, inn, cut1]
end KQ
set_option Elab.async false
set_option linter.all false
set_option maxRecDepth 100000
set_option maxHeartbeats 8000000
namespace KQ
open PySem PySem.Spec PyProof.Rows L2 Q
theorem so_not : PyData.strOk ("not" : Str) = true := by decide +kernel
theorem so_note : PyData.strOk ("note" : Str) = true := by decide +kernel
theorem q_not {w : Str} (h : PyData.strOk w = true) : gEq [.str w, .str "not"] = some (.val (.bl (decide (wd w = .nt)))) := by rw [eq_str h so_not, e9]
theorem q_note {w : Str} (h : PyData.strOk w = true) : gEq [.str w, .str "note"] = some (.val (.bl (decide (wd w = .note)))) := by rw [eq_str h so_note, e3]
end KQ
set_option Elab.async false
set_option linter.all false
set_option maxRecDepth 100000
set_option maxHeartbeats 8000000
namespace KQ
open PySem PySem.Spec PyProof.Rows L2 Q
mutual
def tst (sh : List D) : D → Bool
  | .tup (.str w :: l) => match wd w with
    | .yes => l.length == 0
    | .no => l.length == 0
    | .is => vOK sh l
    | .thn => l.length == 2 && tstL sh l
    | .eit => l.length == 2 && tstL sh l
    | .nt => l.length == 1 && tstL sh l
    | _ => false
  | _ => false
def tstL (sh : List D) : List D → Bool
  | [] => true
  | d :: l => tst sh d && tstL sh l
end
theorem lv_str {w : Str} (h : lv (.str w) = true) : PyData.strOk w = true := by simpa [lv] using h
end KQ
set_option Elab.async false
set_option linter.all false
set_option maxRecDepth 100000
set_option maxHeartbeats 8000000
namespace KQ
open PySem PySem.Spec PyProof.Rows L2 Q
mutual
def ntd (sh : List D) : D → Int
  | .tup (.str w :: l) => match wd w with
    | .note => if l.length = 0 then 1 else 99
    | .put => if vOK sh l = true then 0 else 99
    | .yes => if tst sh (.tup (.str w :: l)) = true then 0 else 99
    | .no => if tst sh (.tup (.str w :: l)) = true then 0 else 99
    | .is => if tst sh (.tup (.str w :: l)) = true then 0 else 99
    | .nt => if tst sh (.tup (.str w :: l)) = true then 0 else 99
    | .thn => if l.length = 2 then ntdL sh l else 99
    | .eit => if l.length = 2 then ntdL sh l else 99
    | .aga => if l.length = 1 then ntdL sh l else 99
    | .oth => 99
  | _ => 99
def ntdL (sh : List D) : List D → Int
  | [] => 0
  | d :: l => ntd sh d + ntdL sh l
end
end KQ
set_option Elab.async false
set_option linter.all false
set_option maxRecDepth 100000
set_option maxHeartbeats 8000000
namespace KQ
open PySem PySem.Spec PyProof.Rows L2 Q
/-! ### what the law tells of a thing is what the program goes through -/
def val (sh : List D) : Bool → D → Int
  | true, d => if tst sh d = true then 0 else 99
  | false, d => ntd sh d
def valL (sh : List D) (t : Bool) : List D → Int
  | [] => 0
  | d :: l => val sh t d + valL sh t l
mutual
theorem ntd_pos (sh : List D) : ∀ d : D, 0 ≤ ntd sh d
  | .tup (.str w :: l) => by
    have := ntdL_pos sh l
    unfold ntd
    split <;> (try split) <;> omega
  | .tup [] => by simp [ntd]
  | .tup (.non :: _) => by simp [ntd]
  | .tup (.bl _ :: _) => by simp [ntd]
  | .tup (.int _ :: _) => by simp [ntd]
  | .tup (.tup _ :: _) => by simp [ntd]
  | .tup (.lst _ :: _) => by simp [ntd]
  | .tup (.dk _ _ :: _) => by simp [ntd]
  | .tup (.dt _ _ :: _) => by simp [ntd]
  | .tup (.exc _ :: _) => by simp [ntd]
  | .tup (.scr _ :: _) => by simp [ntd]
  | .tup (.fnc _ :: _) => by simp [ntd]
  | .non => by simp [ntd]
  | .bl _ => by simp [ntd]
  | .int _ => by simp [ntd]
  | .str _ => by simp [ntd]
  | .lst _ => by simp [ntd]
  | .dk _ _ => by simp [ntd]
  | .dt _ _ => by simp [ntd]
  | .exc _ => by simp [ntd]
  | .scr _ => by simp [ntd]
  | .fnc _ => by simp [ntd]
theorem ntdL_pos (sh : List D) : ∀ l : List D, 0 ≤ ntdL sh l
  | [] => by simp [ntdL]
  | d :: l => by
    have := ntd_pos sh d
    have := ntdL_pos sh l
    simp only [ntdL]
    omega
end
theorem val_pos (sh : List D) (t : Bool) (d : D) : 0 ≤ val sh t d := by
  cases t with
  | true => simp only [val]; split <;> omega
  | false => exact ntd_pos sh d
theorem valL_pos (sh : List D) (t : Bool) : ∀ l, 0 ≤ valL sh t l
  | [] => by simp [valL]
  | d :: l => by
    have := val_pos sh t d
    have := valL_pos sh t l
    simp only [valL]
    omega
theorem valL_ntd (sh : List D) : ∀ l, valL sh false l = ntdL sh l
  | [] => by simp [valL, ntdL]
  | d :: l => by simp [valL, ntdL, val, valL_ntd sh l]
theorem valL_tst (sh : List D) : ∀ l, (tstL sh l = true ∧ valL sh true l = 0) ∨ (tstL sh l = false ∧ 99 ≤ valL sh true l)
  | [] => by simp [valL, tstL]
  | d :: l => by
    have h := valL_tst sh l
    have p := valL_pos sh true l
    cases c : tst sh d with
    | true => simp only [valL, tstL, val, c, if_true, Bool.true_and]; simpa using h
    | false => right; simp only [valL, tstL, val, c, Bool.false_and]; exact ⟨trivial, by simp; omega⟩
def inTest (x : Wd) : Bool := decide (x = .yes ∨ x = .no ∨ x = .is ∨ x = .thn ∨ x = .eit ∨ x = .nt)
theorem hpf_no {sh : List D} {t : Bool} {d : D} (h : hpf sh d = false) : 99 ≤ val sh t d := by
  have key : tst sh d = false ∧ 99 ≤ ntd sh d := by
    unfold hpf at h
    split at h
    · rename_i w l
      cases e : wd w <;> rw [e] at h <;> simp_all [tst, ntd]
    · rename_i nw
      constructor
      · unfold tst
        split
        · exact absurd rfl (nw _ _)
        · rfl
      · unfold ntd
        split
        · exact absurd rfl (nw _ _)
        · omega
  cases t with
  | true => simp [val, key.1]
  | false => exact key.2
theorem not_test {sh : List D} {w : Str} {l : List D} (h : inTest (wd w) = false) : 99 ≤ val sh true (.tup (.str w :: l)) := by
  have : tst sh (.tup (.str w :: l)) = false := by
    unfold tst
    cases e : wd w <;> simp_all [inTest]
  simp [val, this]
theorem val_note {sh : List D} {t : Bool} {w : Str} {l : List D} (h : hpf sh (.tup (.str w :: l)) = true) (e : wd w = .note) (ht : t = true → inTest (wd w) = true) : val sh t (.tup (.str w :: l)) = 1 ∧ inn (.tup (.str w :: l)) = [] := by
  have hl : l = [] := by simpa [hpf, e] using h
  subst hl
  cases t with
  | true => have := ht rfl; rw [e] at this; simp [inTest] at this
  | false => simp [val, ntd, inn, e]
theorem val_step {sh : List D} {t : Bool} {w : Str} {l : List D} (h : hpf sh (.tup (.str w :: l)) = true) (e : wd w ≠ .note) (ht : t = true → inTest (wd w) = true) :
    val sh t (.tup (.str w :: l)) = valL sh (t || decide (wd w = .nt)) (inn (.tup (.str w :: l))) ∨ (99 ≤ val sh t (.tup (.str w :: l)) ∧ 99 ≤ valL sh (t || decide (wd w = .nt)) (inn (.tup (.str w :: l)))) := by
  cases t with
  | true =>
    have ht := ht rfl
    have q := valL_tst sh l
    cases z : wd w with
    | note => exact absurd z e
    | put => rw [z] at ht; simp [inTest] at ht
    | aga => rw [z] at ht; simp [inTest] at ht
    | oth => rw [z] at ht; simp [inTest] at ht
    | yes => left; have hl : l = [] := by simpa [hpf, z] using h
             subst hl; simp [val, tst, z, inn, valL]
    | no => left; have hl : l = [] := by simpa [hpf, z] using h
            subst hl; simp [val, tst, z, inn, valL]
    | is => left; have hl : vOK sh l = true := by simpa [hpf, z] using h
            simp [val, tst, z, inn, valL, hl]
    | thn =>
      have hl : l.length = 2 := by simpa [hpf, z] using h
      have i1 : inn (.tup (.str w :: l)) = l := by simp [inn, z]
      rw [i1]
      rcases q with ⟨q1, q2⟩ | ⟨q1, q2⟩
      · left; simp [val, tst, z, hl, q1, q2]
      · right; simp [val, tst, z, hl, q1, q2]
    | eit =>
      have hl : l.length = 2 := by simpa [hpf, z] using h
      have i1 : inn (.tup (.str w :: l)) = l := by simp [inn, z]
      rw [i1]
      rcases q with ⟨q1, q2⟩ | ⟨q1, q2⟩
      · left; simp [val, tst, z, hl, q1, q2]
      · right; simp [val, tst, z, hl, q1, q2]
    | nt =>
      have hl : l.length = 1 := by simpa [hpf, z] using h
      have i1 : inn (.tup (.str w :: l)) = l := by simp [inn, z]
      rw [i1]
      rcases q with ⟨q1, q2⟩ | ⟨q1, q2⟩
      · left; simp [val, tst, z, hl, q1, q2]
      · right; simp [val, tst, z, hl, q1, q2]
  | false =>
    left
    cases z : wd w with
    | note => exact absurd z e
    | put => have hl : vOK sh l = true := by simpa [hpf, z] using h
             simp [val, ntd, z, inn, valL, hl]
    | oth => simp [hpf, z] at h
    | yes => have hl : l = [] := by simpa [hpf, z] using h
             subst hl; simp [val, ntd, tst, z, inn, valL]
    | no => have hl : l = [] := by simpa [hpf, z] using h
            subst hl; simp [val, ntd, tst, z, inn, valL]
    | is => have hl : vOK sh l = true := by simpa [hpf, z] using h
            simp [val, ntd, tst, z, inn, valL, hl]
    | thn => have hl : l.length = 2 := by simpa [hpf, z] using h
             simp [val, ntd, z, hl, inn, valL_ntd]
    | eit => have hl : l.length = 2 := by simpa [hpf, z] using h
             simp [val, ntd, z, hl, inn, valL_ntd]
    | aga => have hl : l.length = 1 := by simpa [hpf, z] using h
             simp [val, ntd, z, hl, inn, valL_ntd]
    | nt =>
      have hl : l.length = 1 := by simpa [hpf, z] using h
      obtain ⟨a, rfl⟩ : ∃ a, l = [a] := by
        match l, hl with
        | [a], _ => exact ⟨a, rfl⟩
      simp [val, ntd, tst, tstL, z, inn, valL]
end KQ
set_option Elab.async false
set_option linter.all false
set_option maxRecDepth 100000
set_option maxHeartbeats 8000000
namespace KQ
open PySem PySem.Spec PyProof.Rows L2 Q
abbrev pr (p : D × Bool) : T := .fz (.tup [p.1, .bl p.2])
def turnB : SD := (dSeq (dAsg (xLift (dPop 4)) (gdTup 2 (gdCons (gdName 5) (gdCons (gdName 6) gdNil))))
    (dSeq (dIf (xbLift (dNot (dBl (dSh (dCall fn_has_part_form (daCons (dVar 0) (daCons (dVar 5) daNil))))))) (dRet (xLift (dC (.bl false)))) dNext)
    (dSeq (dAsg (xLift (dOp gIx (dSh (dVar 5)) (dSh (dC (.int 0))))) (gdName 7))
    (dSeq (dIf (xbLift (dAnd (dTru (dSh (dVar 6))) (dBl (dSh (dOp (gIn true) (dSh (dVar 7)) (dSh (dC (.tup (t_TEST_WORDS.map D.str))))))))) (dRet (xLift (dC (.bl false)))) dNext)
    (dSeq (dIf (xbLift (dBl (dSh (dOp gEq (dSh (dVar 7)) (dSh (dC (.str "note"))))))) (dAug 3 gAdd (dSh (dC (.int 1)))) dNext)
    (dSeq (dIf (xbLift (dBl (dSh (dOp gGt (dSh (dVar 3)) (dSh (dC (.int 5))))))) (dRet (xLift (dC (.bl false)))) dNext)
    (dFor (dItemsT (dSh (dCall fn_inner_parts (daCons (dVar 5) daNil)))) (gdName 8) (dDrop (xLift (dAppend 4 (dMv (dWith (fdCons (dSh (dVar 8)) (fdCons (dSh (dBool (dOr (dBl (dSh (dVar 6))) (dBl (dSh (dOp gEq (dSh (dVar 7)) (dSh (dC (.str "not"))))))))) fdNil)) gTupD))))))))))))
theorem loop_app {sh d : D} {t : Bool} {w : Str} {th as n x8 : T} (hw : PyData.strOk w = true) : ∀ (l : List D) (V0 : List T), V0.length + l.length < 1000000 → ∃ y8, loopD (gdName 8) (dDrop (xLift (dAppend 4 (dMv (dWith (fdCons (dSh (dVar 8)) (fdCons (dSh (dBool (dOr (dBl (dSh (dVar 6))) (dBl (dSh (dOp gEq (dSh (dVar 7)) (dSh (dC (.str "not"))))))))) fdNil)) gTupD))))) l [.fz sh, th, as, n, .ls V0, .fz d, .fz (.bl t), .fz (.str w), x8] = some (.nx [.fz sh, th, as, n, .ls (V0 ++ l.map fun a => pr (a, t || decide (wd w = .nt))), .fz d, .fz (.bl t), .fz (.str w), y8])
  := by
  intro l
  induction l generalizing x8 with
  | nil => intro V0 _; exact ⟨x8, by simp [loopD]⟩
  | cons a l ih =>
    intro V0 hb
    have c : V0.length < 1000000 := by simp at hb; omega
    obtain ⟨y8, h⟩ := ih (x8 := .fz a) (V0 ++ [pr (a, t || decide (wd w = .nt))]) (by simp at hb ⊢; omega)
    refine ⟨y8, ?_⟩
    have st : (dDrop (xLift (dAppend 4 (dMv (dWith (fdCons (dSh (dVar 8)) (fdCons (dSh (dBool (dOr (dBl (dSh (dVar 6))) (dBl (dSh (dOp gEq (dSh (dVar 7)) (dSh (dC (.str "not"))))))))) fdNil)) gTupD))))) [.fz sh, th, as, n, .ls V0, .fz d, .fz (.bl t), .fz (.str w), .fz a] = some (.nx [.fz sh, th, as, n, .ls (V0 ++ [pr (a, t || decide (wd w = .nt))]), .fz d, .fz (.bl t), .fz (.str w), .fz a]) := by
      cases t <;> simp [fnD, dRet, xLift, dBool, dAnd, dOr, dNot, dBl, dSh, dIsi, dVar, share, T.data, D.isi, D.bool, retW, outP, keepP, dSeq, dIf, xbLift, dC, dOp, dWith, fdCons, fdNil, D.items, Rs.w, dChain, gLe, gLt, gGt, gGe, gRI0, gRI, gAdd, gSubI, dAsg, mv, gdName, dDrop, dCallX, dCall, daCons, daNil, pars, back, putBack, resW, dIfE, dNext, dRaise, dItemsT, dItemsL, dFor, dLift, W.tm, dTru, truth, isFz, dAug, gMul1, dScal, dScalT, T.frz, D.scal, dUn, gNeg, gTupD, gLstD, xNot, xBl, gIx, dSl, gSlT, pAt, pNo, dMv, gInt, dInR, dAppend, isLs, q_not hw, c, pr]
    simp only [loopD, gdName, List.set_cons_succ, List.set_cons_zero, Option.bind_some]
    rw [st]
    simp only [Option.bind_some]
    rw [h]
    simp
theorem turn {sh : List D} {d : D} {t : Bool} {V0 : List T} {n : Int} {th as x5 x6 x7 x8 : T} (hs : shI sh) (hd : lv d = true) (hb : V0.length + d.size < 1000000) :
    (hpf sh d = false ∧ ∃ r, turnB [.fz (.tup sh), th, as, .fz (.int n), .ls (V0 ++ [pr (d, t)]), x5, x6, x7, x8] = some (.rt (.sh (.bl false)) r) ∧ ∃ a b c e f g, r = [.fz (.tup sh), th, as, a, b, c, e, f, g]) ∨
    (hpf sh d = true ∧ ∃ w l, d = .tup (.str w :: l) ∧ (
      ((t = true ∧ inTest (wd w) = false) ∧ ∃ r, turnB [.fz (.tup sh), th, as, .fz (.int n), .ls (V0 ++ [pr (d, t)]), x5, x6, x7, x8] = some (.rt (.sh (.bl false)) r) ∧ ∃ a b c e f g, r = [.fz (.tup sh), th, as, a, b, c, e, f, g]) ∨
      ((t = true → inTest (wd w) = true) ∧ (if wd w = .note then n + 1 else n) > 5 ∧ ∃ r, turnB [.fz (.tup sh), th, as, .fz (.int n), .ls (V0 ++ [pr (d, t)]), x5, x6, x7, x8] = some (.rt (.sh (.bl false)) r) ∧ ∃ a b c e f g, r = [.fz (.tup sh), th, as, a, b, c, e, f, g]) ∨
      ((t = true → inTest (wd w) = true) ∧ ¬ (if wd w = .note then n + 1 else n) > 5 ∧ ∃ y8, turnB [.fz (.tup sh), th, as, .fz (.int n), .ls (V0 ++ [pr (d, t)]), x5, x6, x7, x8] = some (.nx [.fz (.tup sh), th, as, .fz (.int (if wd w = .note then n + 1 else n)), .ls (V0 ++ (inn d).map fun a => pr (a, t || decide (wd w = .nt))), .fz d, .fz (.bl t), .fz (.str w), y8])))) := by
  have hv := v_has_part_form hs hd
  have s1 : dAsg (xLift (dPop 4)) (gdTup 2 (gdCons (gdName 5) (gdCons (gdName 6) gdNil))) [.fz (.tup sh), th, as, .fz (.int n), .ls (V0 ++ [pr (d, t)]), x5, x6, x7, x8] = some (.nx [.fz (.tup sh), th, as, .fz (.int n), .ls V0, .fz d, .fz (.bl t), x7, x8]) := by
    simp [dAsg, xLift, dPop, pr, resW, mv, share, gdTup, T.tupParts, gdCons, gdName, gdNil]
  cases ch : hpf sh d with
  | false =>
    left
    rw [ch] at hv
    refine ⟨rfl, [.fz (.tup sh), th, as, .fz (.int n), .ls V0, .fz d, .fz (.bl t), x7, x8], ?_, _, _, _, _, _, _, rfl⟩
    unfold turnB
    rw [seq_nx s1]
    exact seq_rt (by simp [dIf, xbLift, dNot, dBl, dSh, dCall, daCons, daNil, dVar, pars, hv, resW, back, putBack, share, D.bool, dRet, xLift, dC])
  | true =>
    right
    rw [ch] at hv
    refine ⟨rfl, ?_⟩
    obtain ⟨w, l, rfl⟩ : ∃ w l, d = .tup (.str w :: l) := by
      unfold hpf at ch
      split at ch
      · exact ⟨_, _, rfl⟩
      · cases ch
    refine ⟨w, l, rfl, ?_⟩
    have hw : PyData.strOk w = true := by simp only [lv, lvL, Bool.and_eq_true] at hd; exact lv_str hd.1
    have s2 : (dIf (xbLift (dNot (dBl (dSh (dCall fn_has_part_form (daCons (dVar 0) (daCons (dVar 5) daNil))))))) (dRet (xLift (dC (.bl false)))) dNext) [.fz (.tup sh), th, as, .fz (.int n), .ls V0, .fz (.tup (.str w :: l)), .fz (.bl t), x7, x8] = some (.nx [.fz (.tup sh), th, as, .fz (.int n), .ls V0, .fz (.tup (.str w :: l)), .fz (.bl t), x7, x8]) := by
      simp [dIf, xbLift, dNot, dBl, dSh, dCall, daCons, daNil, dVar, pars, hv, resW, back, putBack, share, D.bool, dNext]
    have s3 : (dAsg (xLift (dOp gIx (dSh (dVar 5)) (dSh (dC (.int 0))))) (gdName 7)) [.fz (.tup sh), th, as, .fz (.int n), .ls V0, .fz (.tup (.str w :: l)), .fz (.bl t), x7, x8] = some (.nx [.fz (.tup sh), th, as, .fz (.int n), .ls V0, .fz (.tup (.str w :: l)), .fz (.bl t), .fz (.str w), x8]) := by
      simp [fnD, dRet, xLift, dBool, dAnd, dOr, dNot, dBl, dSh, dIsi, dVar, share, T.data, D.isi, D.bool, retW, outP, keepP, dSeq, dIf, xbLift, dC, dOp, dWith, fdCons, fdNil, D.items, Rs.w, dChain, gLe, gLt, gGt, gGe, gRI0, gRI, gAdd, gSubI, dAsg, mv, gdName, dDrop, dCallX, dCall, daCons, daNil, pars, back, putBack, resW, dIfE, dNext, dRaise, dItemsT, dItemsL, dFor, dLift, W.tm, dTru, truth, isFz, dAug, gMul1, dScal, dScalT, T.frz, D.scal, dUn, gNeg, gTupD, gLstD, xNot, xBl, gIx, dSl, gSlT, pAt, pNo, dMv, gInt, dInR, at0]
    have s4 : (dIf (xbLift (dAnd (dTru (dSh (dVar 6))) (dBl (dSh (dOp (gIn true) (dSh (dVar 7)) (dSh (dC (.tup (t_TEST_WORDS.map D.str))))))))) (dRet (xLift (dC (.bl false)))) dNext) [.fz (.tup sh), th, as, .fz (.int n), .ls V0, .fz (.tup (.str w :: l)), .fz (.bl t), .fz (.str w), x8] = if t = true ∧ inTest (wd w) = false then some (.rt (.sh (.bl false)) [.fz (.tup sh), th, as, .fz (.int n), .ls V0, .fz (.tup (.str w :: l)), .fz (.bl t), .fz (.str w), x8]) else some (.nx [.fz (.tup sh), th, as, .fz (.int n), .ls V0, .fz (.tup (.str w :: l)), .fz (.bl t), .fz (.str w), x8]) := by
      have it : gIn true [.str w, .tup (t_TEST_WORDS.map D.str)] = some (.val (.bl (!inTest (wd w)))) := in_tests w
      cases t with
      | false => simp [fnD, dRet, xLift, dBool, dAnd, dOr, dNot, dBl, dSh, dIsi, dVar, share, T.data, D.isi, D.bool, retW, outP, keepP, dSeq, dIf, xbLift, dC, dOp, dWith, fdCons, fdNil, D.items, Rs.w, dChain, gLe, gLt, gGt, gGe, gRI0, gRI, gAdd, gSubI, dAsg, mv, gdName, dDrop, dCallX, dCall, daCons, daNil, pars, back, putBack, resW, dIfE, dNext, dRaise, dItemsT, dItemsL, dFor, dLift, W.tm, dTru, truth, isFz, dAug, gMul1, dScal, dScalT, T.frz, D.scal, dUn, gNeg, gTupD, gLstD, xNot, xBl, gIx, dSl, gSlT, pAt, pNo, dMv, gInt, dInR]
      | true => cases z : inTest (wd w) <;> rw [z] at it <;> simp [fnD, dRet, xLift, dBool, dAnd, dOr, dNot, dBl, dSh, dIsi, dVar, share, T.data, D.isi, D.bool, retW, outP, keepP, dSeq, dIf, xbLift, dC, dOp, dWith, fdCons, fdNil, D.items, Rs.w, dChain, gLe, gLt, gGt, gGe, gRI0, gRI, gAdd, gSubI, dAsg, mv, gdName, dDrop, dCallX, dCall, daCons, daNil, pars, back, putBack, resW, dIfE, dNext, dRaise, dItemsT, dItemsL, dFor, dLift, W.tm, dTru, truth, isFz, dAug, gMul1, dScal, dScalT, T.frz, D.scal, dUn, gNeg, gTupD, gLstD, xNot, xBl, gIx, dSl, gSlT, pAt, pNo, dMv, gInt, dInR, it]
    by_cases c1 : t = true ∧ inTest (wd w) = false
    · left
      refine ⟨c1, [.fz (.tup sh), th, as, .fz (.int n), .ls V0, .fz (.tup (.str w :: l)), .fz (.bl t), .fz (.str w), x8], ?_, _, _, _, _, _, _, rfl⟩
      unfold turnB
      rw [seq_nx s1, seq_nx s2, seq_nx s3]
      rw [if_pos c1] at s4
      exact seq_rt s4
    · right
      rw [if_neg c1] at s4
      have c1' : t = true → inTest (wd w) = true := fun z => by
        cases q : inTest (wd w) with
        | true => rfl
        | false => exact absurd ⟨z, q⟩ c1
      have s5 : (dIf (xbLift (dBl (dSh (dOp gEq (dSh (dVar 7)) (dSh (dC (.str "note"))))))) (dAug 3 gAdd (dSh (dC (.int 1)))) dNext) [.fz (.tup sh), th, as, .fz (.int n), .ls V0, .fz (.tup (.str w :: l)), .fz (.bl t), .fz (.str w), x8] = some (.nx [.fz (.tup sh), th, as, .fz (.int (if wd w = .note then n + 1 else n)), .ls V0, .fz (.tup (.str w :: l)), .fz (.bl t), .fz (.str w), x8]) := by
        by_cases z : wd w = .note <;> simp [fnD, dRet, xLift, dBool, dAnd, dOr, dNot, dBl, dSh, dIsi, dVar, share, T.data, D.isi, D.bool, retW, outP, keepP, dSeq, dIf, xbLift, dC, dOp, dWith, fdCons, fdNil, D.items, Rs.w, dChain, gLe, gLt, gGt, gGe, gRI0, gRI, gAdd, gSubI, dAsg, mv, gdName, dDrop, dCallX, dCall, daCons, daNil, pars, back, putBack, resW, dIfE, dNext, dRaise, dItemsT, dItemsL, dFor, dLift, W.tm, dTru, truth, isFz, dAug, gMul1, dScal, dScalT, T.frz, D.scal, dUn, gNeg, gTupD, gLstD, xNot, xBl, gIx, dSl, gSlT, pAt, pNo, dMv, gInt, dInR, q_note hw, z]
      generalize hm : (if wd w = .note then n + 1 else n) = m at s5 ⊢
      by_cases c2 : m > 5
      · left
        refine ⟨c1', c2, [.fz (.tup sh), th, as, .fz (.int m), .ls V0, .fz (.tup (.str w :: l)), .fz (.bl t), .fz (.str w), x8], ?_, _, _, _, _, _, _, rfl⟩
        unfold turnB
        rw [seq_nx s1, seq_nx s2, seq_nx s3, seq_nx s4, seq_nx s5]
        have c2' : (5 : Int) < m := c2
        exact seq_rt (by simp [fnD, dRet, xLift, dBool, dAnd, dOr, dNot, dBl, dSh, dIsi, dVar, share, T.data, D.isi, D.bool, retW, outP, keepP, dSeq, dIf, xbLift, dC, dOp, dWith, fdCons, fdNil, D.items, Rs.w, dChain, gLe, gLt, gGt, gGe, gRI0, gRI, gAdd, gSubI, dAsg, mv, gdName, dDrop, dCallX, dCall, daCons, daNil, pars, back, putBack, resW, dIfE, dNext, dRaise, dItemsT, dItemsL, dFor, dLift, W.tm, dTru, truth, isFz, dAug, gMul1, dScal, dScalT, T.frz, D.scal, dUn, gNeg, gTupD, gLstD, xNot, xBl, gIx, dSl, gSlT, pAt, pNo, dMv, gInt, dInR, c2'])
      · right
        have c2' : ¬ (5 : Int) < m := c2
        have il : (inn (.tup (.str w :: l))).length ≤ l.length := by
          simp only [inn]
          split <;> simp
        have sz : l.length + 1 ≤ (D.tup (.str w :: l)).size := by
          have key : ∀ q : List D, q.length ≤ sizeL q := by
            intro q
            induction q with
            | nil => simp
            | cons a q ih =>
              have : 1 ≤ a.size := by cases a <;> simp [D.size]
              simp only [List.length_cons, sizeL]
              omega
          have := key l
          simp only [D.size, sizeL]
          omega
        obtain ⟨y8, h8⟩ := loop_app (sh := .tup sh) (d := .tup (.str w :: l)) (t := t) (w := w) (th := th) (as := as) (n := .fz (.int m)) (x8 := x8) hw (inn (.tup (.str w :: l))) V0 (by omega)
        refine ⟨c1', c2, y8, ?_⟩
        unfold turnB
        rw [seq_nx s1, seq_nx s2, seq_nx s3, seq_nx s4, seq_nx s5]
        rw [seq_nx (r1 := [.fz (.tup sh), th, as, .fz (.int m), .ls V0, .fz (.tup (.str w :: l)), .fz (.bl t), .fz (.str w), x8]) (by simp [fnD, dRet, xLift, dBool, dAnd, dOr, dNot, dBl, dSh, dIsi, dVar, share, T.data, D.isi, D.bool, retW, outP, keepP, dSeq, dIf, xbLift, dC, dOp, dWith, fdCons, fdNil, D.items, Rs.w, dChain, gLe, gLt, gGt, gGe, gRI0, gRI, gAdd, gSubI, dAsg, mv, gdName, dDrop, dCallX, dCall, daCons, daNil, pars, back, putBack, resW, dIfE, dNext, dRaise, dItemsT, dItemsL, dFor, dLift, W.tm, dTru, truth, isFz, dAug, gMul1, dScal, dScalT, T.frz, D.scal, dUn, gNeg, gTupD, gLstD, xNot, xBl, gIx, dSl, gSlT, pAt, pNo, dMv, gInt, dInR, c2'])]
        refine for_nx (l := inn (.tup (.str w :: l))) (r1 := [.fz (.tup sh), th, as, .fz (.int m), .ls V0, .fz (.tup (.str w :: l)), .fz (.bl t), .fz (.str w), x8]) ?_ h8
        simp [dItemsT, dSh, dCall, daCons, daNil, dVar, pars, v_inner_parts, resW, back, putBack, share]
end KQ
set_option Elab.async false
set_option linter.all false
set_option maxRecDepth 100000
set_option maxHeartbeats 8000000
namespace KQ
open PySem PySem.Spec PyProof.Rows L2 Q
def sizeW : List (D × Bool) → Nat
  | [] => 0
  | p :: l => p.1.size + sizeW l
def totW (sh : List D) : List (D × Bool) → Int
  | [] => 0
  | p :: l => val sh p.2 p.1 + totW sh l
theorem sizeW_app : ∀ a b, sizeW (a ++ b) = sizeW a + sizeW b
  | [], b => by simp [sizeW]
  | p :: a, b => by simp [sizeW, sizeW_app a b]; omega
theorem totW_app (sh : List D) : ∀ a b, totW sh (a ++ b) = totW sh a + totW sh b
  | [], b => by simp [totW]
  | p :: a, b => by simp [totW, totW_app sh a b]; omega
theorem totW_pos (sh : List D) : ∀ a, 0 ≤ totW sh a
  | [] => by simp [totW]
  | p :: a => by
    have := totW_pos sh a
    have := val_pos sh p.2 p.1
    simp only [totW]
    omega
theorem sizeW_map (t : Bool) : ∀ l : List D, sizeW (l.map fun a => (a, t)) = sizeL l
  | [] => rfl
  | a :: l => by simp [sizeW, sizeL, sizeW_map t l]
theorem totW_map (sh : List D) (t : Bool) : ∀ l : List D, totW sh (l.map fun a => (a, t)) = valL sh t l
  | [] => rfl
  | a :: l => by simp [totW, valL, totW_map sh t l]
theorem size_pos (d : D) : 1 ≤ d.size := by cases d <;> simp [D.size]
theorem sizeW_len : ∀ l : List (D × Bool), l.length ≤ sizeW l
  | [] => by simp [sizeW]
  | p :: l => by
    have := sizeW_len l
    have := size_pos p.1
    simp only [List.length_cons, sizeW]
    omega
theorem lvL_mem : ∀ {l : List D}, lvL l = true → ∀ d ∈ l, lv d = true
  | [], _, d, h => by cases h
  | a :: l, h, d, hd => by
    simp only [lvL, Bool.and_eq_true] at h
    rcases List.mem_cons.mp hd with rfl | hd
    · exact h.1
    · exact lvL_mem h.2 d hd
abbrev testW : XB := xbLift (dScalT (dTru (dSh (dVar 4))))
theorem prs_data (l : List (D × Bool)) : T.data (.ls (l.map pr)) = some (.lst (l.map fun p => .tup [p.1, .bl p.2])) := by
  show (dataL (l.map pr)).map D.lst = _
  have := dataL_fz (l.map fun p => D.tup [p.1, .bl p.2])
  rw [List.map_map] at this
  rw [show l.map pr = l.map (T.fz ∘ fun p => D.tup [p.1, .bl p.2]) from rfl, this]
  rfl
theorem test_val (l : List (D × Bool)) (a0 a1 a2 a3 a5 a6 a7 a8 : T) : testW [a0, a1, a2, a3, .ls (l.map pr), a5, a6, a7, a8] = some (.inl (!l.isEmpty), [a0, a1, a2, a3, .ls (l.map pr), a5, a6, a7, a8]) := by
  have h : (T.ls (l.map pr)).frz = .fz (.lst (l.map fun p => .tup [p.1, .bl p.2])) := by unfold T.frz; rw [prs_data]
  simp only [testW, xbLift, dScalT, List.map_cons, List.map_nil, h]
  simp [dTru, dSh, dVar, share, T.data, truth]
def Six (sh : List D) (th as : T) (r : List T) : Prop := ∃ a b c e f g, r = [.fz (.tup sh), th, as, a, b, c, e, f, g]
theorem wl {sh : List D} (hs : shI sh) (th as : T) : ∀ (m : Nat) (V : List (D × Bool)) (n : Int) (x5 x6 x7 x8 : T), (∀ p ∈ V, lv p.1 = true) → sizeW V < m → sizeW V ≤ 900000 → 0 ≤ n → n ≤ 5 →
    ∃ r, Six sh th as r ∧ whileD testW turnB m [.fz (.tup sh), th, as, .fz (.int n), .ls (V.map pr), x5, x6, x7, x8] = some (if n + totW sh V ≤ 5 then .nx r else .rt (.sh (.bl false)) r) := by
  intro m
  induction m with
  | zero => intro V n x5 x6 x7 x8 _ h; omega
  | succ m ih =>
    intro V n x5 x6 x7 x8 hl hm hb n0 n5
    rcases List.eq_nil_or_concat V with rfl | ⟨V', p, rfl⟩
    · refine ⟨[.fz (.tup sh), th, as, .fz (.int n), .ls [], x5, x6, x7, x8], ⟨_, _, _, _, _, _, rfl⟩, ?_⟩
      rw [if_pos (by simp [totW]; omega)]
      have := test_val [] (.fz (.tup sh)) th as (.fz (.int n)) x5 x6 x7 x8
      simp only [whileD, this, Option.bind_some]
      rfl
    · rw [List.concat_eq_append] at *
      obtain ⟨d, t⟩ := p
      have hd : lv d = true := hl (d, t) (by simp)
      have hV : ∀ p ∈ V', lv p.1 = true := fun p hp => hl p (by simp [hp])
      rw [sizeW_app] at hm hb
      simp only [sizeW, Nat.add_zero] at hm hb
      have hlen := sizeW_len V'
      have hpos := totW_pos sh V'
      have e0 : (V' ++ [(d, t)]).map pr = V'.map pr ++ [pr (d, t)] := by simp
      have tv := test_val (V' ++ [(d, t)]) (.fz (.tup sh)) th as (.fz (.int n)) x5 x6 x7 x8
      rw [e0] at tv
      have ne : (!(V' ++ [(d, t)]).isEmpty) = true := by simp
      rw [ne] at tv
      rw [e0, totW_app]
      simp only [totW, Int.add_zero]
      have tr := turn (sh := sh) (d := d) (t := t) (V0 := V'.map pr) (n := n) (th := th) (as := as) (x5 := x5) (x6 := x6) (x7 := x7) (x8 := x8) hs hd (by rw [List.length_map]; omega)
      have fail : ∀ r, turnB [.fz (.tup sh), th, as, .fz (.int n), .ls (V'.map pr ++ [pr (d, t)]), x5, x6, x7, x8] = some (.rt (.sh (.bl false)) r) → whileD testW turnB (m + 1) [.fz (.tup sh), th, as, .fz (.int n), .ls (V'.map pr ++ [pr (d, t)]), x5, x6, x7, x8] = some (.rt (.sh (.bl false)) r) := fun r e => by
        simp only [whileD, tv, Option.bind_some, e]
      rcases tr with ⟨hp, r, e, six⟩ | ⟨hp, w, l, rfl, tr⟩
      · have := hpf_no (t := t) hp
        exact ⟨r, six, by rw [if_neg (by omega)]; exact fail r e⟩
      · rcases tr with ⟨c, r, e, six⟩ | ⟨c, c2, r, e, six⟩ | ⟨c, c2, y8, e⟩
        · obtain ⟨rfl, c⟩ := c
          have := not_test (sh := sh) (l := l) c
          exact ⟨r, six, by rw [if_neg (by omega)]; exact fail r e⟩
        · refine ⟨r, six, ?_⟩
          rw [if_neg ?_]
          · exact fail r e
          · split at c2
            · rename_i z
              have := (val_note hp z c).1
              omega
            · omega
        · have lvl : lvL l = true := by simp only [lv, lvL, Bool.and_eq_true] at hd; exact hd.2
          have inl : ∀ a ∈ inn (.tup (.str w :: l)), lv a = true := fun a ha => by
            simp only [inn] at ha
            split at ha
            · cases ha
            · exact lvL_mem lvl a ha
          have isz : sizeL (inn (.tup (.str w :: l))) < (D.tup (.str w :: l)).size := by
            simp only [inn, D.size, sizeL]
            split
            · simp [sizeL]
            · omega
          have nn : 0 ≤ (if wd w = .note then n + 1 else n) := by split <;> omega
          obtain ⟨r, six, h⟩ := ih (V' ++ (inn (.tup (.str w :: l))).map fun a => (a, t || decide (wd w = .nt))) (if wd w = .note then n + 1 else n) (.fz (.tup (.str w :: l))) (.fz (.bl t)) (.fz (.str w)) y8 (fun p hp => by
              rcases List.mem_append.mp hp with q | q
              · exact hV p q
              · obtain ⟨a, ha, rfl⟩ := List.mem_map.mp q
                exact inl a ha) (by rw [sizeW_app, sizeW_map]; omega) (by rw [sizeW_app, sizeW_map]; omega) nn (by omega)
          refine ⟨r, six, ?_⟩
          have em : (V' ++ (inn (.tup (.str w :: l))).map fun a => (a, t || decide (wd w = .nt))).map pr = V'.map pr ++ (inn (.tup (.str w :: l))).map fun a => pr (a, t || decide (wd w = .nt)) := by simp
          rw [em] at h
          have st : whileD testW turnB (m + 1) [.fz (.tup sh), th, as, .fz (.int n), .ls (V'.map pr ++ [pr (.tup (.str w :: l), t)]), x5, x6, x7, x8] = whileD testW turnB m [.fz (.tup sh), th, as, .fz (.int (if wd w = .note then n + 1 else n)), .ls (V'.map pr ++ (inn (.tup (.str w :: l))).map fun a => pr (a, t || decide (wd w = .nt))), .fz (.tup (.str w :: l)), .fz (.bl t), .fz (.str w), y8] := by
            conv => lhs; unfold whileD
            simp only [tv, Option.bind_some, e]
          rw [st, h, totW_app, totW_map]
          congr 1
          have key : (if wd w = .note then n + 1 else n) + (totW sh V' + valL sh (t || decide (wd w = .nt)) (inn (.tup (.str w :: l)))) ≤ 5 ↔ n + (totW sh V' + val sh t (.tup (.str w :: l))) ≤ 5 := by
            by_cases z : wd w = .note
            · obtain ⟨v1, v2⟩ := val_note hp z c
              rw [if_pos z, v1, v2]
              simp only [valL]
              omega
            · rw [if_neg z]
              rcases val_step hp z c with v | ⟨v1, v2⟩
              · rw [v]
              · omega
          by_cases q : n + (totW sh V' + val sh t (.tup (.str w :: l))) ≤ 5
          · rw [if_pos q, if_pos (key.mpr q)]
          · rw [if_neg q, if_neg (fun z => q (key.mp z))]
theorem v_is_made_well {sh : List D} {d : D} {t : Bool} (hs : shI sh) (hd : lv d = true) (hz : d.size ≤ 900000) : fn_is_made_well [.fz (.tup sh), .fz d, .fz (.bl t)] = some (.ret (.fz (.bl (decide (val sh t d ≤ 5)))), [.fz (.tup sh), .fz d, .fz (.bl t)]) := by
  have fu : fuel_is_made_well_1 [.fz (.tup sh), .fz d, .fz (.bl t), .fz (.int 0), .ls [pr (d, t)], .un, .un, .un, .un] = d.size + 4 := by
    simp [fuel_is_made_well_1, sizeAt, T.data, dataL, D.size, sizeL, pr]
  obtain ⟨r, six, h⟩ := wl hs (.fz d) (.fz (.bl t)) (d.size + 4) [(d, t)] 0 .un .un .un .un (by simp [hd]) (by simp only [sizeW]; omega) (by simp only [sizeW]; omega) (by omega) (by omega)
  simp only [totW, List.map_cons, List.map_nil, Int.add_zero, Int.zero_add] at h
  obtain ⟨a, b, c, e, f, g, rfl⟩ := six
  have s12 : b_is_made_well [.fz (.tup sh), .fz d, .fz (.bl t), .un, .un, .un, .un, .un, .un] = (dSeq (dWhile fuel_is_made_well_1 testW turnB) (dRet (xLift (dC (.bl true))))) [.fz (.tup sh), .fz d, .fz (.bl t), .fz (.int 0), .ls [pr (d, t)], .un, .un, .un, .un] := by
    unfold b_is_made_well
    rw [seq_nx (r1 := [.fz (.tup sh), .fz d, .fz (.bl t), .fz (.int 0), .un, .un, .un, .un, .un]) (by rfl)]
    rw [seq_nx (r1 := [.fz (.tup sh), .fz d, .fz (.bl t), .fz (.int 0), .ls [pr (d, t)], .un, .un, .un, .un]) (by simp [fnD, dRet, xLift, dBool, dAnd, dOr, dNot, dBl, dSh, dIsi, dVar, share, T.data, D.isi, D.bool, retW, outP, keepP, dSeq, dIf, xbLift, dC, dOp, dWith, fdCons, fdNil, D.items, Rs.w, dChain, gLe, gLt, gGt, gGe, gRI0, gRI, gAdd, gSubI, dAsg, mv, gdName, dDrop, dCallX, dCall, daCons, daNil, pars, back, putBack, resW, dIfE, dNext, dRaise, dItemsT, dItemsL, dFor, dLift, W.tm, dTru, truth, isFz, dAug, gMul1, dScal, dScalT, T.frz, D.scal, dUn, gNeg, gTupD, gLstD, xNot, xBl, gIx, dSl, gSlT, pAt, pNo, dMv, gInt, dInR, pr])]
    rfl
  have hw : dWhile fuel_is_made_well_1 testW turnB [.fz (.tup sh), .fz d, .fz (.bl t), .fz (.int 0), .ls [pr (d, t)], .un, .un, .un, .un] = some (if val sh t d ≤ 5 then .nx [.fz (.tup sh), .fz d, .fz (.bl t), a, b, c, e, f, g] else .rt (.sh (.bl false)) [.fz (.tup sh), .fz d, .fz (.bl t), a, b, c, e, f, g]) := by
    unfold dWhile
    rw [fu]
    exact h
  by_cases q : val sh t d ≤ 5
  · rw [if_pos q] at hw
    rw [decide_eq_true q]
    refine (fn_rt (d := .bl true) (r := [.fz (.tup sh), .fz d, .fz (.bl t), a, b, c, e, f, g]) (by rfl) ((s12.trans (seq_nx hw)).trans rfl) (by simp)).trans (by simp [outP])
  · rw [if_neg q] at hw
    rw [decide_eq_false q]
    refine (fn_rt (d := .bl false) (r := [.fz (.tup sh), .fz d, .fz (.bl t), a, b, c, e, f, g]) (by rfl) (s12.trans (seq_rt hw)) (by simp)).trans (by simp [outP])
end KQ
set_option Elab.async false
set_option linter.all false
set_option maxRecDepth 100000
set_option maxHeartbeats 8000000
namespace KQ
open PySem PySem.Spec PyProof.Rows L2 Q
theorem upto_len (n : Nat) : (upto 0 n).length = n := by unfold upto; simp
theorem v__law_take {n k : Int} (hk : 0 < k) (hk2 : k < 1000) : fn__law_take [.ls [.fz (.int n)], .fz (.int k)] = some (.ret (.fz (.int (n % k))), [.ls [.fz (.int (n / k))], .fz (.int k)]) := by
  have hc : CDivW n k := wide_div hk (b := 10) (by omega) (by decide) (by decide)
  simp [fn__law_take, fnD, b__law_take, dSeq, dAsg, xLift, dOp, dWith, fdCons, fdNil, dSh, dIxO, isLs, dC, share, atI, ixN, dVar, T.data, gMod, gRI, hk, Rs.w, mv, gdName, gDiv, hc, gdIx, dRet, retW, outP]
theorem v__law_mixed {c k : Int} (hk : -(2 ^ 40) < k ∧ k < 2 ^ 40) : ∃ v, 0 ≤ v ∧ v < 2147483579 ∧ fn__law_mixed [.fz (.int c), .fz (.int k)] = some (.ret (.fz (.int v)), [.fz (.int c), .fz (.int k)]) := by
  have m1 := Int.emod_nonneg c (show (2147483647 : Int) ≠ 0 by decide)
  have m2 := Int.emod_lt_of_pos c (show (0 : Int) < 2147483647 by decide)
  generalize hx : c % 2147483647 = x at m1 m2
  have c1 : CMulW x 48271 := mulW_small 32 17 (by omega) (by decide) (by decide) (by decide) (by decide)
  have c2 : CMulW k 69621 := mulW_small 41 18 (by omega) (by decide) (by decide) (by decide) (by decide)
  have n1 := Int.emod_nonneg (x * 48271 + k * 69621 + 1048583) (show (2147483629 : Int) ≠ 0 by decide)
  have n2 := Int.emod_lt_of_pos (x * 48271 + k * 69621 + 1048583) (show (0 : Int) < 2147483629 by decide)
  generalize hy : (x * 48271 + k * 69621 + 1048583) % 2147483629 = y at n1 n2
  have c3 : CMulW y y := mulW_small 32 32 (by omega) (by omega) (by decide) (by decide) (by decide)
  have o1 := Int.emod_nonneg (y * y) (show (2147483587 : Int) ≠ 0 by decide)
  have o2 := Int.emod_lt_of_pos (y * y) (show (0 : Int) < 2147483587 by decide)
  generalize hz : y * y % 2147483587 = z at o1 o2
  have c4 : CMulW z (z + 2) := mulW_small 32 33 (by omega) (by omega) (by decide) (by decide) (by decide)
  have p1 := Int.emod_nonneg (z * (z + 2)) (show (2147483579 : Int) ≠ 0 by decide)
  have p2 := Int.emod_lt_of_pos (z * (z + 2)) (show (0 : Int) < 2147483579 by decide)
  refine ⟨z * (z + 2) % 2147483579, p1, p2, ?_⟩
  simp [fn__law_mixed, fnD, b__law_mixed, dSeq, dAsg, xLift, dOp, dWith, fdCons, fdNil, dSh, dC, share, dVar, T.data, gMod, gRI, gRI0, gAdd, gMul, Rs.w, mv, gdName, dRet, retW, outP, hx, c1, c2, hy, c3, hz, c4]
theorem v__law_cell {ns : List Int} {k : Int} (h0 : 0 ≤ k) (h1 : k < 64) : ∃ c, fn__law_cell [.fz (.scr ns), .fz (.int k)] = some (.ret (.fz (.int c)), [.fz (.scr ns), .fz (.int k)]) := by
  -- the cell itself
  have cell : ∃ x : Int, (dIf (xbLift (dBl (dSh (dOp gLt (dSh (dVar 1)) (dSh (dWith (fdCons (dSh (dVar 0)) fdNil) gLen)))))) (dAsg (xLift (dOp gIx (dSh (dVar 0)) (dSh (dVar 1)))) (gdName 2)) dNext) [.fz (.scr ns), .fz (.int k), .fz (.int 0), .un, .un] = some (.nx [.fz (.scr ns), .fz (.int k), .fz (.int x), .un, .un]) := by
    by_cases c : k < ns.length
    · have hk : k.toNat < ns.length := by omega
      refine ⟨ns[k.toNat], ?_⟩
      have a1 : atI (ns.map D.int) k = some (.int ns[k.toNat]) := by
        unfold L2.atI L2.ixN
        rw [if_pos h0, List.length_map, if_pos c]
        simp [hk]
      simp [dIf, xbLift, dBl, dSh, dOp, dWith, fdCons, fdNil, dVar, share, T.data, gLen, D.items, Rs.w, gLt, gRI0, D.bool, c, dAsg, xLift, gIx, a1, mv, gdName]
    · refine ⟨0, ?_⟩
      simp [dIf, xbLift, dBl, dSh, dOp, dWith, fdCons, fdNil, dVar, share, T.data, gLen, D.items, Rs.w, gLt, gRI0, D.bool, c, dNext]
  obtain ⟨x, hx⟩ := cell
  have s1 : b__law_cell [.fz (.scr ns), .fz (.int k), .un, .un, .un] = (dSeq (dIf (xbLift (dBl (dSh (dOp gGe (dSh (dVar 2)) (dSh (dOp gPow (dSh (dC (.int 10))) (dSh (dC (.int 18))))))))) (dRet (xLift (dOp gMod (dSh (dOp gSubI (dSh (dVar 2)) (dSh (dOp gPow (dSh (dC (.int 10))) (dSh (dC (.int 18))))))) (dSh (dOp gMul (dSh (dOp gMul (dSh (dOp gMul (dSh (dOp gPow (dSh (dC (.int 10))) (dSh (dC (.int 60))))) (dSh (dOp gPow (dSh (dC (.int 10))) (dSh (dC (.int 60))))))) (dSh (dOp gPow (dSh (dC (.int 10))) (dSh (dC (.int 60))))))) (dSh (dOp gPow (dSh (dC (.int 10))) (dSh (dC (.int 60)))))))))) dNext)
    (dSeq (dAsg (xLift (dC (.int 0))) (gdName 3))
    (dSeq (dFor (dRange1 (fdCons (dSh (dC (.int 24))) fdNil)) (gdName 4) (dAsg (xLift (dOp gAdd (dSh (dOp gMul (dSh (dVar 3)) (dSh (dC (.int 2147483579))))) (dSh (dCall fn__law_mixed (daCons (dVar 2) (daCons (dOp gAdd (dSh (dOp gAdd (dSh (dOp gMul (dSh (dC (.int 7))) (dSh (dVar 1)))) (dSh (dOp gMul (dSh (dC (.int 100))) (dSh (dVar 4)))))) (dSh (dOp gMul (dSh (dVar 4)) (dSh (dVar 4))))) daNil)))))) (gdName 3)))
    (dRet (xLift (dVar 3)))))) [.fz (.scr ns), .fz (.int k), .fz (.int x), .un, .un] := by
    unfold b__law_cell
    rw [seq_nx (r1 := [.fz (.scr ns), .fz (.int k), .fz (.int 0), .un, .un]) (by rfl)]
    rw [seq_nx hx]
  have pw : CPow 10 18 := ⟨by decide, by decide, by decide⟩
  have pw2 : CPow 10 60 := ⟨by decide, by decide, by decide⟩
  by_cases big : (10 : Int) ^ 18 ≤ x
  · have q1 : CMulW ((10 : Int) ^ 60) (10 ^ 60) := by decide +kernel
    have q2 : CMulW ((10 : Int) ^ 60 * 10 ^ 60) (10 ^ 60) := by decide +kernel
    have q3 : CMulW ((10 : Int) ^ 60 * 10 ^ 60 * 10 ^ 60) (10 ^ 60) := by decide +kernel
    have q4 : (0 : Int) < 10 ^ 60 * 10 ^ 60 * 10 ^ 60 * 10 ^ 60 := by decide +kernel
    refine ⟨(x - 10 ^ 18) % (10 ^ 60 * 10 ^ 60 * 10 ^ 60 * 10 ^ 60), ?_⟩
    refine (fn_rt (d := .int ((x - (10 : Int) ^ 18) % (10 ^ 60 * 10 ^ 60 * 10 ^ 60 * 10 ^ 60))) (r := [.fz (.scr ns), .fz (.int k), .fz (.int x), .un, .un]) (by rfl) (s1.trans (seq_rt ?_)) (by simp)).trans (by rfl)
    have e18 : dSh (dOp gPow (dSh (dC (.int 10))) (dSh (dC (.int 18)))) [.fz (.scr ns), .fz (.int k), .fz (.int x), .un, .un] = some (.int (10 ^ 18), [.fz (.scr ns), .fz (.int k), .fz (.int x), .un, .un]) := sh_sh (op_eval (z := .val (.int (10 ^ 18))) rfl rfl (if_pos (e := none) pw))
    have e60 : dSh (dOp gPow (dSh (dC (.int 10))) (dSh (dC (.int 60)))) [.fz (.scr ns), .fz (.int k), .fz (.int x), .un, .un] = some (.int (10 ^ 60), [.fz (.scr ns), .fz (.int k), .fz (.int x), .un, .un]) := sh_sh (op_eval (z := .val (.int (10 ^ 60))) rfl rfl (if_pos (e := none) pw2))
    have ev : dSh (dVar 2) [.fz (.scr ns), .fz (.int k), .fz (.int x), .un, .un] = some (.int x, [.fz (.scr ns), .fz (.int k), .fz (.int x), .un, .un]) := rfl
    have g1 := bl_of (sh_sh (op_eval (g := gGe) (z := .val (.bl (decide ((10 : Int) ^ 18 ≤ x)))) ev e18 rfl))
    have m1 := sh_sh (op_eval (g := gMul) (z := .val (.int ((10 : Int) ^ 60 * 10 ^ 60))) e60 e60 (if_pos (e := none) q1))
    have m2 := sh_sh (op_eval (g := gMul) (z := .val (.int ((10 : Int) ^ 60 * 10 ^ 60 * 10 ^ 60))) m1 e60 (if_pos (e := none) q2))
    have m3 := sh_sh (op_eval (g := gMul) (z := .val (.int ((10 : Int) ^ 60 * 10 ^ 60 * 10 ^ 60 * 10 ^ 60))) m2 e60 (if_pos (e := none) q3))
    have sb := sh_sh (op_eval (g := gSubI) (z := .val (.int (x - (10 : Int) ^ 18))) ev e18 rfl)
    have md := op_eval (g := gMod) (z := .val (.int ((x - (10 : Int) ^ 18) % (10 ^ 60 * 10 ^ 60 * 10 ^ 60 * 10 ^ 60)))) sb m3 (if_pos (e := none) q4)
    unfold dIf xbLift
    rw [g1]
    simp only [big, decide_true, Option.bind_some]
    unfold dRet xLift
    rw [md]
    rfl
  · have e18 : dSh (dOp gPow (dSh (dC (.int 10))) (dSh (dC (.int 18)))) [.fz (.scr ns), .fz (.int k), .fz (.int x), .un, .un] = some (.int (10 ^ 18), [.fz (.scr ns), .fz (.int k), .fz (.int x), .un, .un]) := sh_sh (op_eval (z := .val (.int (10 ^ 18))) rfl rfl (if_pos (e := none) pw))
    have ev : dSh (dVar 2) [.fz (.scr ns), .fz (.int k), .fz (.int x), .un, .un] = some (.int x, [.fz (.scr ns), .fz (.int k), .fz (.int x), .un, .un]) := rfl
    have g1 := bl_of (sh_sh (op_eval (g := gGe) (z := .val (.bl (decide ((10 : Int) ^ 18 ≤ x)))) ev e18 rfl))
    have turn : ∀ pre d post, upto 0 24 = pre ++ d :: post → ∀ r, (∃ f y, f.natAbs < 2 ^ (32 * pre.length + 1) ∧ r = [.fz (.scr ns), .fz (.int k), .fz (.int x), .fz (.int f), y]) → ∃ r1 r2, gdName 4 r (.fz d) = some r1 ∧ (dAsg (xLift (dOp gAdd (dSh (dOp gMul (dSh (dVar 3)) (dSh (dC (.int 2147483579))))) (dSh (dCall fn__law_mixed (daCons (dVar 2) (daCons (dOp gAdd (dSh (dOp gAdd (dSh (dOp gMul (dSh (dC (.int 7))) (dSh (dVar 1)))) (dSh (dOp gMul (dSh (dC (.int 100))) (dSh (dVar 4)))))) (dSh (dOp gMul (dSh (dVar 4)) (dSh (dVar 4))))) daNil)))))) (gdName 3)) r1 = some (.nx r2) ∧ ∃ f y, f.natAbs < 2 ^ (32 * (pre.length + 1) + 1) ∧ r2 = [.fz (.scr ns), .fz (.int k), .fz (.int x), .fz (.int f), y] := by
      rintro pre d post eu r ⟨f, y, hf, rfl⟩
      have hlen : pre.length < 24 := by
        have := congrArg List.length eu
        rw [upto_len] at this
        simp at this
        omega
      have hd : d = .int pre.length := by
        have := congrArg (fun l => l[pre.length]?) eu
        simp [upto, hlen] at this
        exact this.symm
      subst hd
      have j1 : (0 : Int) ≤ pre.length := by omega
      have j2 : (pre.length : Int) < 24 := by omega
      generalize hj : (pre.length : Int) = j at j1 j2
      have jj : (0 : Int) ≤ j * j ∧ j * j ≤ 24 * 24 := ⟨Int.mul_nonneg j1 j1, Int.mul_le_mul (by omega) (by omega) j1 (by decide)⟩
      have fb : f.natAbs < 2 ^ 800 := Nat.lt_of_lt_of_le hf (Nat.pow_le_pow_right (by decide) (by omega))
      have c1 : CMulW f 2147483579 := mulW_small 800 32 fb (by decide) (by decide) (by decide) (by decide)
      have c2 : CMulW 7 k := mulW_small 4 10 (by decide) (by omega) (by decide) (by decide) (by decide)
      have c3 : CMulW 100 j := mulW_small 8 10 (by decide) (by omega) (by decide) (by decide) (by decide)
      have c4 : CMulW j j := mulW_small 10 10 (by omega) (by omega) (by decide) (by decide) (by decide)
      obtain ⟨v, v0, v1, hv⟩ := v__law_mixed (c := x) (k := 7 * k + 100 * j + j * j) (by omega)
      refine ⟨[.fz (.scr ns), .fz (.int k), .fz (.int x), .fz (.int f), .fz (.int j)], [.fz (.scr ns), .fz (.int k), .fz (.int x), .fz (.int (f * 2147483579 + v)), .fz (.int j)], rfl, ?_, f * 2147483579 + v, .fz (.int j), ?_, rfl⟩
      · have m0 := sh_sh (op_eval (g := gMul) (fa := dSh (dVar 3)) (fb := dSh (dC (.int 2147483579))) (r := [.fz (.scr ns), .fz (.int k), .fz (.int x), .fz (.int f), .fz (.int j)]) (z := .val (.int (f * 2147483579))) rfl rfl (if_pos (e := none) c1))
        have m1 := sh_sh (op_eval (g := gMul) (fa := dSh (dC (.int 7))) (fb := dSh (dVar 1)) (r := [.fz (.scr ns), .fz (.int k), .fz (.int x), .fz (.int f), .fz (.int j)]) (z := .val (.int (7 * k))) rfl rfl (if_pos (e := none) c2))
        have m2 := sh_sh (op_eval (g := gMul) (fa := dSh (dC (.int 100))) (fb := dSh (dVar 4)) (r := [.fz (.scr ns), .fz (.int k), .fz (.int x), .fz (.int f), .fz (.int j)]) (z := .val (.int (100 * j))) rfl rfl (if_pos (e := none) c3))
        have m3 := sh_sh (op_eval (g := gMul) (fa := dSh (dVar 4)) (fb := dSh (dVar 4)) (r := [.fz (.scr ns), .fz (.int k), .fz (.int x), .fz (.int f), .fz (.int j)]) (z := .val (.int (j * j))) rfl rfl (if_pos (e := none) c4))
        have a1 := sh_sh (op_eval (g := gAdd) (z := .val (.int (7 * k + 100 * j))) m1 m2 rfl)
        have a2 := op_eval (g := gAdd) (z := .val (.int (7 * k + 100 * j + j * j))) a1 m3 rfl
        have cl := call_sh (fn := fn__law_mixed) (f := daCons (dVar 2) (daCons (dOp gAdd (dSh (dOp gAdd (dSh (dOp gMul (dSh (dC (.int 7))) (dSh (dVar 1)))) (dSh (dOp gMul (dSh (dC (.int 100))) (dSh (dVar 4)))))) (dSh (dOp gMul (dSh (dVar 4)) (dSh (dVar 4))))) daNil)) (r := [.fz (.scr ns), .fz (.int k), .fz (.int x), .fz (.int f), .fz (.int j)]) (r1 := [.fz (.scr ns), .fz (.int k), .fz (.int x), .fz (.int f), .fz (.int j)]) (r2 := [.fz (.scr ns), .fz (.int k), .fz (.int x), .fz (.int f), .fz (.int j)]) (ws := [.pl 2, .sh (.int (7 * k + 100 * j + j * j))]) (by simp only [daCons, daNil, show dVar 2 [.fz (.scr ns), .fz (.int k), .fz (.int x), .fz (.int f), .fz (.int j)] = some (.pl 2, [.fz (.scr ns), .fz (.int k), .fz (.int x), .fz (.int f), .fz (.int j)]) from rfl, Option.bind_some, a2, Rs.w]; rfl) (by rfl) hv rfl
        exact asg_sh (i := 3) (op_eval (g := gAdd) (z := .val (.int (f * 2147483579 + v))) m0 (sh_sh cl) rfl)
      · have e32 : 2 ^ (32 * (pre.length + 1) + 1) = 2 ^ (32 * pre.length + 1) * 4294967296 := by
          rw [show 32 * (pre.length + 1) + 1 = (32 * pre.length + 1) + 32 by omega, Nat.pow_add]
        rw [e32]
        have : (0 : Nat) < 2 ^ (32 * pre.length + 1) := Nat.pow_pos (by decide)
        generalize 2 ^ (32 * pre.length + 1) = M at hf this
        omega
    obtain ⟨r', e1, f, y, _, rfl⟩ := loop_all (h := gdName 4) (st := fun (n : Nat) r => ∃ f y, f.natAbs < 2 ^ (32 * n + 1) ∧ r = [.fz (.scr ns), .fz (.int k), .fz (.int x), .fz (.int f), y]) (f := fun n _ => n + 1) (a0 := 0) (l := upto 0 24) (r := [.fz (.scr ns), .fz (.int k), .fz (.int x), .fz (.int 0), .un])
      (fun pre d post eu r hr => by
        have cnt : ∀ (q : List D) (n : Nat), q.foldl (fun n _ => n + 1) n = n + q.length := by
          intro q
          induction q with
          | nil => intro n; rfl
          | cons a q ih => intro n; rw [List.foldl_cons, ih, List.length_cons]; omega
        rw [cnt, Nat.zero_add] at hr ⊢
        exact turn pre d post eu r hr) ⟨0, .un, by decide, rfl⟩
    refine ⟨f, ?_⟩
    have fin : b__law_cell [.fz (.scr ns), .fz (.int k), .un, .un, .un] = some (.rt (.pl 3) [.fz (.scr ns), .fz (.int k), .fz (.int x), .fz (.int f), y]) := by
      rw [s1]
      rw [seq_nx (r1 := [.fz (.scr ns), .fz (.int k), .fz (.int x), .un, .un]) (by unfold dIf xbLift; rw [g1, decide_eq_false big]; rfl)]
      rw [seq_nx (r1 := [.fz (.scr ns), .fz (.int k), .fz (.int x), .fz (.int 0), .un]) (by rfl)]
      rw [seq_nx (for_nx (l := upto 0 24) (r1 := [.fz (.scr ns), .fz (.int k), .fz (.int x), .fz (.int 0), .un]) (by rfl) e1)]
      rfl
    show fnD 2 5 [true, true] b__law_cell [.fz (.scr ns), .fz (.int k)] = _
    unfold fnD
    rw [if_pos (show [T.fz (.scr ns), T.fz (.int k)].length = 2 from rfl)]
    show ((b__law_cell [.fz (.scr ns), .fz (.int k), .un, .un, .un]).bind _) = _
    rw [fin]
    rfl
end KQ
set_option Elab.async false
set_option linter.all false
set_option maxRecDepth 100000
set_option maxHeartbeats 8000000
namespace KQ
open PySem PySem.Spec PyProof.Rows L2 Q
/-! ### shapes -/
def prodI : List Int → Int
  | [] => 1
  | x :: l => x * prodI l
structure GSh (sh : List D) : Prop where
  ex : ∃ l : List Int, sh = l.map .int ∧ (∀ x ∈ l, 1 ≤ x ∧ x ≤ 4) ∧ 1 ≤ l.length ∧ l.length ≤ 3 ∧ prodI l ≤ 27
theorem GSh.ints {sh : List D} (h : GSh sh) : shI sh := by
  obtain ⟨l, rfl, _⟩ := h.ex
  intro x hx
  obtain ⟨n, _, rfl⟩ := List.mem_map.mp hx
  exact ⟨n, rfl⟩
theorem cm {i j : Int} (h1 : 1 ≤ j) (h2 : j ≤ 4) : CMul i j := Or.inr ⟨by omega, by omega⟩
theorem v_is_shape {sh : List D} (h : GSh sh) : fn_is_shape [.fz (.tup sh)] = some (.ret (.fz (.bl true)), [.fz (.tup sh)]) := by
  obtain ⟨l, rfl, hx, h1, h3, hp⟩ := h.ex
  match l, h1, h3 with
  | [a], _, _ =>
    obtain ⟨a1, a4⟩ := hx a (by simp)
    have na := v_is_number (d := .int a) rfl
    have ca := cm (i := 1) a1 a4
    simp [prodI] at hp
    simp [fn_is_shape, b_is_shape, L_is_shape_1, fnD, dRet, xLift, dBool, dAnd, dOr, dNot, dBl, dSh, dIsi, dVar, share, T.data, D.isi, D.bool, retW, outP, keepP, dSeq, dIf, xbLift, dC, dOp, dWith, fdCons, fdNil, D.items, Rs.w, dChain, gLe, gLt, gGt, gGe, gRI0, gRI, gAdd, gSubI, dAsg, mv, gdName, dDrop, dCallX, dCall, daCons, daNil, pars, back, putBack, resW, dIfE, dNext, dRaise, dItemsT, dItemsL, dFor, dLift, W.tm, dTru, truth, isFz, dAug, gMul1, dScal, dScalT, T.frz, D.scal, dUn, gNeg, gTupD, gLstD, xNot, xBl, gIx, dSl, gSlT, pAt, pNo, dMv, gInt, dInR, len_tup, loopD, na, isNum, a1, a4, ca, hp]
  | [a, b], _, _ =>
    obtain ⟨a1, a4⟩ := hx a (by simp)
    obtain ⟨b1, b4⟩ := hx b (by simp)
    have na := v_is_number (d := .int a) rfl
    have nb := v_is_number (d := .int b) rfl
    have ca := cm (i := 1) a1 a4
    have cb := cm (i := a) b1 b4
    simp [prodI] at hp
    simp [fn_is_shape, b_is_shape, L_is_shape_1, fnD, dRet, xLift, dBool, dAnd, dOr, dNot, dBl, dSh, dIsi, dVar, share, T.data, D.isi, D.bool, retW, outP, keepP, dSeq, dIf, xbLift, dC, dOp, dWith, fdCons, fdNil, D.items, Rs.w, dChain, gLe, gLt, gGt, gGe, gRI0, gRI, gAdd, gSubI, dAsg, mv, gdName, dDrop, dCallX, dCall, daCons, daNil, pars, back, putBack, resW, dIfE, dNext, dRaise, dItemsT, dItemsL, dFor, dLift, W.tm, dTru, truth, isFz, dAug, gMul1, dScal, dScalT, T.frz, D.scal, dUn, gNeg, gTupD, gLstD, xNot, xBl, gIx, dSl, gSlT, pAt, pNo, dMv, gInt, dInR, len_tup, loopD, na, nb, isNum, a1, a4, b1, b4, ca, cb, hp]
  | [a, b, c], _, _ =>
    obtain ⟨a1, a4⟩ := hx a (by simp)
    obtain ⟨b1, b4⟩ := hx b (by simp)
    obtain ⟨c1, c4⟩ := hx c (by simp)
    have na := v_is_number (d := .int a) rfl
    have nb := v_is_number (d := .int b) rfl
    have nc := v_is_number (d := .int c) rfl
    have ca := cm (i := 1) a1 a4
    have cb := cm (i := a) b1 b4
    have cc := cm (i := a * b) c1 c4
    simp [prodI] at hp
    rw [← Int.mul_assoc] at hp
    simp [fn_is_shape, b_is_shape, L_is_shape_1, fnD, dRet, xLift, dBool, dAnd, dOr, dNot, dBl, dSh, dIsi, dVar, share, T.data, D.isi, D.bool, retW, outP, keepP, dSeq, dIf, xbLift, dC, dOp, dWith, fdCons, fdNil, D.items, Rs.w, dChain, gLe, gLt, gGt, gGe, gRI0, gRI, gAdd, gSubI, dAsg, mv, gdName, dDrop, dCallX, dCall, daCons, daNil, pars, back, putBack, resW, dIfE, dNext, dRaise, dItemsT, dItemsL, dFor, dLift, W.tm, dTru, truth, isFz, dAug, gMul1, dScal, dScalT, T.frz, D.scal, dUn, gNeg, gTupD, gLstD, xNot, xBl, gIx, dSl, gSlT, pAt, pNo, dMv, gInt, dInR, len_tup, loopD, na, nb, nc, isNum, a1, a4, b1, b4, c1, c4, ca, cb, cc, hp]
theorem v_check {Z : Zs} {sh : List D} (h : GSh sh) : fn_check_shape Z [.fz (.tup sh)] = some (.ret (.fz .non), [.fz (.tup sh)]) := by
  have hs := v_is_shape h
  simp [fn_check_shape, b_check_shape, fnD, dRet, xLift, dBool, dAnd, dOr, dNot, dBl, dSh, dIsi, dVar, share, T.data, D.isi, D.bool, retW, outP, keepP, dSeq, dIf, xbLift, dC, dOp, dWith, fdCons, fdNil, D.items, Rs.w, dChain, gLe, gLt, gGt, gGe, gRI0, gRI, gAdd, gSubI, dAsg, mv, gdName, dDrop, dCallX, dCall, daCons, daNil, pars, back, putBack, resW, dIfE, dNext, dRaise, dItemsT, dItemsL, dFor, dLift, W.tm, dTru, truth, isFz, dAug, gMul1, dScal, dScalT, T.frz, D.scal, dUn, gNeg, gTupD, gLstD, xNot, xBl, gIx, dSl, gSlT, pAt, pNo, dMv, gInt, dInR, hs]
theorem v_is_saying {Z : Zs} {sh : List D} {d : D} (h : GSh sh) (hd : lv d = true) (hz : d.size ≤ 900000) : fn_is_saying Z [.fz (.tup sh), .fz d] = some (.ret (.fz (.bl (decide (ntd sh d < 6)))), [.fz (.tup sh), .fz d]) := by
  have hs := v_check (Z := Z) h
  have hm := v_is_made_well (t := false) h.ints hd hz
  have e : decide (val sh false d ≤ 5) = decide (ntd sh d < 6) := by
    by_cases c : ntd sh d < 6
    · rw [decide_eq_true c, decide_eq_true (show val sh false d ≤ 5 by simp only [val]; omega)]
    · rw [decide_eq_false c, decide_eq_false (show ¬ val sh false d ≤ 5 by simp only [val]; omega)]
  rw [e] at hm
  simp [fn_is_saying, b_is_saying, fnD, dRet, xLift, dBool, dAnd, dOr, dNot, dBl, dSh, dIsi, dVar, share, T.data, D.isi, D.bool, retW, outP, keepP, dSeq, dIf, xbLift, dC, dOp, dWith, fdCons, fdNil, D.items, Rs.w, dChain, gLe, gLt, gGt, gGe, gRI0, gRI, gAdd, gSubI, dAsg, mv, gdName, dDrop, dCallX, dCall, daCons, daNil, pars, back, putBack, resW, dIfE, dNext, dRaise, dItemsT, dItemsL, dFor, dLift, W.tm, dTru, truth, isFz, dAug, gMul1, dScal, dScalT, T.frz, D.scal, dUn, gNeg, gTupD, gLstD, xNot, xBl, gIx, dSl, gSlT, pAt, pNo, dMv, gInt, dInR, hs, hm]
/-! ### the law's shapes -/
theorem take_at {p k : Int} (hk : 0 < k) (hk2 : k < 1000) : fn__law_take [.ls [.fz (.int p)], .fz (.int k)] = some (.ret (.fz (.int (p % k))), [.ls [.fz (.int (p / k))], .fz (.int k)]) := v__law_take hk hk2
end KQ
set_option Elab.async false
set_option linter.all false
set_option maxRecDepth 100000
set_option maxHeartbeats 8000000
namespace KQ
open PySem PySem.Spec PyProof.Rows L2 Q
/-! ### what the law draws -/
def stockS : List Str := ["yes", "no", "note", "is", "put", "then", "either", "again", "not", "Yes", "", "0", "set", "letters", "2", "(yes;no)"]
def leaf : D → Bool
  | .non => true
  | .bl _ => true
  | .int i => decide (-1 ≤ i ∧ i ≤ 30) || decide (i = 100000000000000000000000000000)
  | .str s => stockS.contains s
  | _ => false
mutual
def wt : D → Nat
  | .tup l => wtL l + 10
  | .lst l => wtL l + 10
  | _ => 100
def wtL : List D → Nat
  | [] => 0
  | d :: l => wt d + 2 + wtL l
end
mutual
def fin : D → Bool
  | .tup l => finL l
  | .lst l => finL l
  | .non => leaf .non
  | .bl b => leaf (.bl b)
  | .int i => leaf (.int i)
  | .str s => leaf (.str s)
  | _ => false
def finL : List D → Bool
  | [] => true
  | d :: l => fin d && finL l
end
/-! ### texts of what is drawn -/
theorem strOk_app (a b : Str) : PyData.strOk (a ++ b) = (PyData.strOk a && PyData.strOk b) := by
  show (a.cps ++ b.cps).all _ = _
  rw [Array.all_append]
  rfl
theorem litx : PyData.strOk (", " : String) = true ∧ PyData.strOk ("" : String) = true ∧ PyData.strOk ("[" : String) = true ∧ PyData.strOk ("]" : String) = true ∧ PyData.strOk ("(" : String) = true ∧ PyData.strOk (",)" : String) = true ∧ PyData.strOk (")" : String) = true := by decide +kernel
theorem strOk_join : ∀ ts : List Str, (∀ t ∈ ts, PyData.strOk t = true) → PyData.strOk (Str.join ", " ts) = true
  | [], _ => litx.2.1
  | [x], h => h x (by simp)
  | x :: y :: r, h => by
    show PyData.strOk (x ++ ", " ++ Str.join ", " (y :: r)) = true
    rw [strOk_app, strOk_app, h x (by simp), strOk_join (y :: r) fun t ht => h t (List.mem_cons_of_mem _ ht), litx.1]
    rfl
theorem strOk_from : ∀ (ts : List Str) (k : Nat) (acc : Str), (∀ t ∈ ts, PyData.strOk t = true) → PyData.strOk acc = true → PyData.strOk (textFrom k acc ts) = true
  | [], k, acc, _, h => h
  | t :: r, k, acc, ht, h => by
    refine strOk_from r (k + 1) _ (fun u hu => ht u (List.mem_cons_of_mem _ hu)) ?_
    rw [strOk_app, strOk_app, h, ht t (by simp)]
    split <;> simp [litx]
theorem strOk_tup (ts : List Str) (h : ∀ t ∈ ts, PyData.strOk t = true) : PyData.strOk (tupleText ts) = true := by
  unfold tupleText
  rw [strOk_app, strOk_app, strOk_join ts h]
  split <;> simp [litx]
theorem strOk_lst (ts : List Str) (h : ∀ t ∈ ts, PyData.strOk t = true) : PyData.strOk (listText ts) = true := by
  unfold listText
  rw [strOk_app, strOk_from ts 0 "[" h litx.2.2.1, litx.2.2.2.1]
  rfl
def Shw (d : D) : Prop := ∃ x, d.py = some x ∧ x.showable = true ∧ x.depth = dep d ∧ x.shown.length ≤ wt d ∧ PyData.strOk x.shown = true
def ShwL (l : List D) : Prop := ∃ xs, pyL l = some xs ∧ PyData.showableAll xs = true ∧ PyData.depthAll xs = depL l ∧ ((PyData.shownAll xs).map (·.length)).sum + 2 * l.length ≤ wtL l ∧ (PyData.shownAll xs).length = l.length ∧ ∀ t ∈ PyData.shownAll xs, PyData.strOk t = true
def leafs : List D := [.non, .bl true, .bl false, .int 100000000000000000000000000000] ++ stockS.map D.str ++ (List.range 32).map fun i : Nat => D.int ((i : Int) - 1)
def shwB (d : D) : Bool := match d.py with
  | some x => x.showable && decide (x.depth = dep d) && decide (x.shown.length ≤ wt d) && PyData.strOk x.shown
  | none => false
theorem leafs_ok : leafs.all shwB = true := by decide +kernel
theorem leafs_lv : leafs.all lv = true := by decide +kernel
theorem leaf_mem {d : D} (h : leaf d = true) : d ∈ leafs := by
  unfold leafs
  cases d with
  | non => simp
  | bl b => cases b <;> simp
  | int i =>
    simp only [leaf, Bool.or_eq_true, decide_eq_true_eq] at h
    rcases h with h | h
    · apply List.mem_append_right
      refine List.mem_map.mpr ⟨(i + 1).toNat, by rw [List.mem_range]; omega, ?_⟩
      congr 1
      omega
    · subst h; simp
  | str s =>
    apply List.mem_append_left
    apply List.mem_append_right
    refine List.mem_map.mpr ⟨s, ?_, rfl⟩
    simpa [leaf] using h
  | _ => cases h
theorem shw_leaf {d : D} (h : leaf d = true) : Shw d := by
  have := List.all_eq_true.mp leafs_ok d (leaf_mem h)
  unfold shwB at this
  split at this
  · rename_i x e
    simp only [Bool.and_eq_true, decide_eq_true_eq] at this
    exact ⟨x, e, this.1.1.1, this.1.1.2, this.1.2, this.2⟩
  · cases this
mutual
theorem shw : ∀ d : D, fin d = true → Shw d
  | .tup l, h => by
    obtain ⟨xs, e, a1, a2, a3, a4, a5⟩ := shwL l (by simpa only [fin] using h)
    refine ⟨.tuple xs, by show (pyL l).map PyData.tuple = _; rw [e]; rfl, a1, ?_, ?_, strOk_tup _ a5⟩
    · simp only [PyData.depth, dep, a2]
    · have := tupleText_len_le (PyData.shownAll xs)
      show (tupleText (PyData.shownAll xs)).length ≤ _
      simp only [wt]
      omega
  | .lst l, h => by
    obtain ⟨xs, e, a1, a2, a3, a4, a5⟩ := shwL l (by simpa only [fin] using h)
    refine ⟨.list xs, by show (pyL l).map PyData.list = _; rw [e]; rfl, a1, ?_, ?_, strOk_lst _ a5⟩
    · simp only [PyData.depth, dep, a2]
    · have := listText_len_le (PyData.shownAll xs)
      show (listText (PyData.shownAll xs)).length ≤ _
      simp only [wt]
      omega
  | .non, h => shw_leaf h
  | .bl _, h => shw_leaf h
  | .int _, h => shw_leaf h
  | .str _, h => shw_leaf h
  | .dk _ _, h => by simp [fin] at h
  | .dt _ _, h => by simp [fin] at h
  | .exc _, h => by simp [fin] at h
  | .scr _, h => by simp [fin] at h
  | .fnc _, h => by simp [fin] at h
theorem shwL : ∀ l : List D, finL l = true → ShwL l
  | [], _ => ⟨[], rfl, rfl, rfl, by simp [PyData.shownAll, wtL], rfl, by simp [PyData.shownAll]⟩
  | d :: l, h => by
    simp only [finL, Bool.and_eq_true] at h
    obtain ⟨x, e, b1, b2, b3, b4⟩ := shw d h.1
    obtain ⟨xs, e2, a1, a2, a3, a4, a5⟩ := shwL l h.2
    refine ⟨x :: xs, ?_, ?_, ?_, ?_, ?_, ?_⟩
    · show (d.py.bind fun x => (pyL l).map (x :: ·)) = _
      rw [e, e2]
      rfl
    · simp [PyData.showableAll, b1, a1]
    · simp only [PyData.depthAll, depL, a2, b2]
    · simp only [PyData.shownAll, List.map_cons, List.sum_cons, List.length_cons, wtL]
      omega
    · simp [PyData.shownAll, a4]
    · intro t ht
      simp only [PyData.shownAll, List.mem_cons] at ht
      rcases ht with rfl | ht
      · exact b4
      · exact a5 t ht
end
mutual
theorem lv_fin : ∀ d : D, fin d = true → lv d = true
  | .tup l, h => by simp only [lv]; exact lvL_fin l (by simpa only [fin] using h)
  | .lst l, h => by simp only [lv]; exact lvL_fin l (by simpa only [fin] using h)
  | .non, h => rfl
  | .bl _, h => rfl
  | .int _, h => rfl
  | .str s, h => List.all_eq_true.mp leafs_lv _ (leaf_mem (by simpa only [fin] using h))
  | .dk _ _, h => by simp [fin] at h
  | .dt _ _, h => by simp [fin] at h
  | .exc _, h => by simp [fin] at h
  | .scr _, h => by simp [fin] at h
  | .fnc _, h => by simp [fin] at h
theorem lvL_fin : ∀ l : List D, finL l = true → lvL l = true
  | [], _ => rfl
  | d :: l, h => by
    simp only [finL, Bool.and_eq_true] at h
    simp only [lvL, Bool.and_eq_true]
    exact ⟨lv_fin d h.1, lvL_fin l h.2⟩
end
mutual
theorem size_wt : ∀ d : D, d.size ≤ wt d
  | .tup l => by have := sizeL_wt l; simp only [D.size, wt]; omega
  | .lst l => by have := sizeL_wt l; simp only [D.size, wt]; omega
  | .non => by simp [D.size, wt]
  | .bl _ => by simp [D.size, wt]
  | .int _ => by simp [D.size, wt]
  | .str _ => by simp [D.size, wt]
  | .dk _ _ => by simp [D.size, wt]
  | .dt _ _ => by simp [D.size, wt]
  | .exc _ => by simp [D.size, wt]
  | .scr _ => by simp [D.size, wt]
  | .fnc _ => by simp [D.size, wt]
theorem sizeL_wt : ∀ l : List D, sizeL l ≤ wtL l
  | [] => by simp [sizeL, wtL]
  | d :: l => by
    have := size_wt d
    have := sizeL_wt l
    simp only [sizeL, wtL]
    omega
end
theorem ne_str {s : Str} (h : PyData.strOk s = true) : gNe [.str s, .str s] = some (.val (.bl false)) := by
  show (if SeqAt.shaped (.str s) = true ∧ SeqAt.shaped (.str s) = true then some (Rs.val (.bl (!PyData.eqv (.str s) (.str s)))) else none) = _
  simp [SeqAt.shaped, PyData.eqv, PyData.canLay0, PyData.depth, h]
theorem rep_ok {d : D} (h : fin d = true) (hk : dep d ≤ 100) (hw : wt d ≤ 1000000) : ∃ s, gRep [d] = some (.val (.str s)) ∧ PyData.strOk s = true := by
  obtain ⟨x, e, b1, b2, b3, b4⟩ := shw d h
  exact ⟨x.shown, by show (d.py.bind _) = _; rw [e]; exact if_pos ⟨b1, by omega, by omega⟩, b4⟩
end KQ
set_option Elab.async false
set_option linter.all false
set_option maxRecDepth 100000
set_option maxHeartbeats 8000000
namespace KQ
open PySem PySem.Spec PyProof.Rows L2 Q
/-! ### sayings -/
inductive Sy where
  | yes | no | note | is (i j : Int) | put (i j : Int) | thn (a b : Sy) | eit (a b : Sy) | aga (a : Sy) | nt (a : Sy)
def Sy.d : Sy → D
  | .yes => .tup [.str "yes"]
  | .no => .tup [.str "no"]
  | .note => .tup [.str "note"]
  | .is i j => .tup [.str "is", .int i, .int j]
  | .put i j => .tup [.str "put", .int i, .int j]
  | .thn a b => .tup [.str "then", a.d, b.d]
  | .eit a b => .tup [.str "either", a.d, b.d]
  | .aga a => .tup [.str "again", a.d]
  | .nt a => .tup [.str "not", a.d]
theorem w1 : wd "yes" = .yes := by decide +kernel
theorem w2 : wd "no" = .no := by decide +kernel
theorem w3 : wd "note" = .note := by decide +kernel
theorem w4 : wd "is" = .is := by decide +kernel
theorem w5 : wd "put" = .put := by decide +kernel
theorem w6 : wd "then" = .thn := by decide +kernel
theorem w7 : wd "either" = .eit := by decide +kernel
theorem w8 : wd "again" = .aga := by decide +kernel
theorem w9 : wd "not" = .nt := by decide +kernel
def okT (sh : List D) : Sy → Bool
  | .yes => true
  | .no => true
  | .is i j => vOK sh [.int i, .int j]
  | .thn a b => okT sh a && okT sh b
  | .eit a b => okT sh a && okT sh b
  | .nt a => okT sh a
  | _ => false
def okS (sh : List D) : Sy → Bool
  | .yes => true
  | .no => true
  | .note => true
  | .is i j => vOK sh [.int i, .int j]
  | .put i j => vOK sh [.int i, .int j]
  | .thn a b => okS sh a && okS sh b
  | .eit a b => okS sh a && okS sh b
  | .aga a => okS sh a
  | .nt a => okT sh a
def notes : Sy → Nat
  | .note => 1
  | .thn a b => notes a + notes b
  | .eit a b => notes a + notes b
  | .aga a => notes a
  | _ => 0
def sz : Sy → Nat
  | .thn a b => sz a + sz b + 1
  | .eit a b => sz a + sz b + 1
  | .aga a => sz a + 1
  | .nt a => sz a + 1
  | _ => 1
def hgt : Sy → Nat
  | .thn a b => max (hgt a) (hgt b) + 1
  | .eit a b => max (hgt a) (hgt b) + 1
  | .aga a => hgt a + 1
  | .nt a => hgt a + 1
  | _ => 1
theorem tst_d {sh : List D} : ∀ s : Sy, okT sh s = true → tst sh s.d = true
  | .yes, _ => by simp [Sy.d, tst, w1]
  | .no, _ => by simp [Sy.d, tst, w2]
  | .note, h => by simp [okT] at h
  | .is i j, h => by simpa [Sy.d, tst, w4, okT] using h
  | .put i j, h => by simp [okT] at h
  | .thn a b, h => by
    simp only [okT, Bool.and_eq_true] at h
    simp [Sy.d, tst, tstL, w6, tst_d a h.1, tst_d b h.2]
  | .eit a b, h => by
    simp only [okT, Bool.and_eq_true] at h
    simp [Sy.d, tst, tstL, w7, tst_d a h.1, tst_d b h.2]
  | .aga a, h => by simp [okT] at h
  | .nt a, h => by
    simp only [okT] at h
    simp [Sy.d, tst, tstL, w9, tst_d a h]
theorem ntd_d {sh : List D} : ∀ s : Sy, okS sh s = true → ntd sh s.d = notes s
  | .yes, _ => by simp [Sy.d, ntd, tst, w1, notes]
  | .no, _ => by simp [Sy.d, ntd, tst, w2, notes]
  | .note, _ => by simp [Sy.d, ntd, w3, notes]
  | .is i j, h => by
    simp only [okS] at h
    simp [Sy.d, ntd, tst, w4, notes, h]
  | .put i j, h => by
    simp only [okS] at h
    simp [Sy.d, ntd, w5, notes, h]
  | .thn a b, h => by
    simp only [okS, Bool.and_eq_true] at h
    simp [Sy.d, ntd, ntdL, w6, notes, ntd_d a h.1, ntd_d b h.2]
  | .eit a b, h => by
    simp only [okS, Bool.and_eq_true] at h
    simp [Sy.d, ntd, ntdL, w7, notes, ntd_d a h.1, ntd_d b h.2]
  | .aga a, h => by
    simp only [okS] at h
    simp [Sy.d, ntd, ntdL, w8, notes, ntd_d a h]
  | .nt a, h => by
    simp only [okS] at h
    simp [Sy.d, ntd, tst, tstL, w9, notes, tst_d a h]
theorem vOK_small {sh : List D} {i j : Int} (hs : GSh sh) (h : vOK sh [.int i, .int j] = true) : 0 ≤ i ∧ i < 3 ∧ 0 ≤ j ∧ j < 4 ∧ i < sh.length := by
  obtain ⟨l, rfl, hx, h1, h3, _⟩ := hs.ex
  simp only [vOK, Bool.and_eq_true, decide_eq_true_eq] at h
  obtain ⟨h0, h⟩ := h
  split at h
  · rename_i n e
    rw [List.getElem?_map] at e
    obtain ⟨m, e1, e2⟩ := Option.map_eq_some_iff.mp e
    cases e2
    have hi := (List.getElem?_eq_some_iff.mp e1).1
    have := hx n (List.mem_of_getElem? e1)
    simp only [blw, decide_eq_true_eq] at h
    rw [List.length_map]
    omega
  · cases h
theorem fin_i {i : Int} (h0 : 0 ≤ i) (h4 : i < 4) : fin (.int i) = true := by simp [fin, leaf]; omega
theorem fl1 : fin (.str "yes") = true := by decide +kernel
theorem fl2 : fin (.str "no") = true := by decide +kernel
theorem fl3 : fin (.str "note") = true := by decide +kernel
theorem fl4 : fin (.str "is") = true := by decide +kernel
theorem fl5 : fin (.str "put") = true := by decide +kernel
theorem fl6 : fin (.str "then") = true := by decide +kernel
theorem fl7 : fin (.str "either") = true := by decide +kernel
theorem fl8 : fin (.str "again") = true := by decide +kernel
theorem fl9 : fin (.str "not") = true := by decide +kernel
theorem fin_t1 {a : D} (h : fin a = true) : fin (.tup [a]) = true := by simp only [fin, finL, h]; rfl
theorem fin_t2 {a b : D} (h : fin a = true) (h2 : fin b = true) : fin (.tup [a, b]) = true := by simp only [fin, finL, h, h2]; rfl
theorem fin_t3 {a b c : D} (h : fin a = true) (h2 : fin b = true) (h3 : fin c = true) : fin (.tup [a, b, c]) = true := by simp only [fin, finL, h, h2, h3]; rfl
theorem fin_T {sh : List D} (hs : GSh sh) : ∀ s : Sy, okT sh s = true → fin s.d = true
  | .yes, _ => fin_t1 fl1
  | .no, _ => fin_t1 fl2
  | .note, h => by simp [okT] at h
  | .is i j, h => by
    obtain ⟨a, b, c, e, _⟩ := vOK_small hs (show vOK sh [.int i, .int j] = true from h)
    exact fin_t3 fl4 (fin_i a (by omega)) (fin_i c e)
  | .put i j, h => by simp [okT] at h
  | .thn a b, h => by simp only [okT, Bool.and_eq_true] at h; exact fin_t3 fl6 (fin_T hs a h.1) (fin_T hs b h.2)
  | .eit a b, h => by simp only [okT, Bool.and_eq_true] at h; exact fin_t3 fl7 (fin_T hs a h.1) (fin_T hs b h.2)
  | .aga a, h => by simp [okT] at h
  | .nt a, h => by simp only [okT] at h; exact fin_t2 fl9 (fin_T hs a h)
theorem fin_S {sh : List D} (hs : GSh sh) : ∀ s : Sy, okS sh s = true → fin s.d = true
  | .yes, _ => fin_t1 fl1
  | .no, _ => fin_t1 fl2
  | .note, h => fin_t1 fl3
  | .is i j, h => by
    obtain ⟨a, b, c, e, _⟩ := vOK_small hs (show vOK sh [.int i, .int j] = true from h)
    exact fin_t3 fl4 (fin_i a (by omega)) (fin_i c e)
  | .put i j, h => by
    obtain ⟨a, b, c, e, _⟩ := vOK_small hs (show vOK sh [.int i, .int j] = true from h)
    exact fin_t3 fl5 (fin_i a (by omega)) (fin_i c e)
  | .thn a b, h => by simp only [okS, Bool.and_eq_true] at h; exact fin_t3 fl6 (fin_S hs a h.1) (fin_S hs b h.2)
  | .eit a b, h => by simp only [okS, Bool.and_eq_true] at h; exact fin_t3 fl7 (fin_S hs a h.1) (fin_S hs b h.2)
  | .aga a, h => by simp only [okS] at h; exact fin_t2 fl8 (fin_S hs a h)
  | .nt a, h => by simp only [okS] at h; exact fin_t2 fl9 (fin_T hs a h)
theorem dep_d : ∀ s : Sy, dep s.d ≤ hgt s
  | .yes => by simp [Sy.d, dep, depL, hgt]
  | .no => by simp [Sy.d, dep, depL, hgt]
  | .note => by simp [Sy.d, dep, depL, hgt]
  | .is i j => by simp [Sy.d, dep, depL, hgt]
  | .put i j => by simp [Sy.d, dep, depL, hgt]
  | .thn a b => by have := dep_d a; have := dep_d b; simp only [Sy.d, dep, depL, hgt]; omega
  | .eit a b => by have := dep_d a; have := dep_d b; simp only [Sy.d, dep, depL, hgt]; omega
  | .aga a => by have := dep_d a; simp only [Sy.d, dep, depL, hgt]; omega
  | .nt a => by have := dep_d a; simp only [Sy.d, dep, depL, hgt]; omega
theorem wt_d : ∀ s : Sy, wt s.d ≤ 320 * sz s
  | .yes => by simp [Sy.d, wt, wtL, sz]
  | .no => by simp [Sy.d, wt, wtL, sz]
  | .note => by simp [Sy.d, wt, wtL, sz]
  | .is i j => by simp [Sy.d, wt, wtL, sz]
  | .put i j => by simp [Sy.d, wt, wtL, sz]
  | .thn a b => by have := wt_d a; have := wt_d b; simp only [Sy.d, wt, wtL, sz]; omega
  | .eit a b => by have := wt_d a; have := wt_d b; simp only [Sy.d, wt, wtL, sz]; omega
  | .aga a => by have := wt_d a; simp only [Sy.d, wt, wtL, sz]; omega
  | .nt a => by have := wt_d a; simp only [Sy.d, wt, wtL, sz]; omega
end KQ
set_option Elab.async false
set_option linter.all false
set_option maxRecDepth 100000
set_option maxHeartbeats 8000000
namespace KQ
open PySem PySem.Spec PyProof.Rows L2 Q
def shs1 : List (List Int) := [[2, 2], [3], [2, 3], [4, 2], [2, 2, 2], [3, 3], [1, 2], [4, 4], [3, 3, 3], [2, 1, 3], [1]]
def shs2 : List (List Int) := [[2], [4, 3, 2]]
def shD (l : List (List Int)) : List D := l.map fun x => .tup (x.map .int)
theorem shs_ok : (shs1 ++ shs2).all (fun l => l.all (fun x => decide (1 ≤ x ∧ x ≤ 4)) && decide (1 ≤ l.length) && decide (l.length ≤ 3) && decide (prodI l ≤ 27)) = true := by decide +kernel
theorem gsh_of {l : List Int} (h : l ∈ shs1 ++ shs2) : GSh (l.map .int) := by
  have := List.all_eq_true.mp shs_ok l h
  simp only [Bool.and_eq_true, decide_eq_true_eq] at this
  obtain ⟨⟨⟨h1, h2⟩, h3⟩, h4⟩ := this
  refine ⟨l, rfl, fun x hx => ?_, h2, h3, h4⟩
  have := List.all_eq_true.mp h1 x hx
  simpa using this
theorem cat_ok {a b : List D} (h : a.length + b.length ≤ 1000000) : gCatL [.lst a, .lst b] = some (.newL (a ++ b)) := by simp [gCatL, h]
theorem v__law_shape (p : Int) : ∃ (l : List Int) (p' : Int), l ∈ shs1 ++ shs2 ∧ fn__law_shape [.ls [.fz (.int p)]] = some (.ret (.fz (.tup (l.map .int))), [.ls [.fz (.int p')]]) := by
  have ht := take_at (p := p) (k := 13) (by decide) (by decide)
  have r0 := Int.emod_nonneg p (show (13 : Int) ≠ 0 by decide)
  have r1 := Int.emod_lt_of_pos p (show (0 : Int) < 13 by decide)
  generalize hr : p % 13 = r at *
  have hlen : (shs1 ++ shs2).length = 13 := rfl
  have ri : r.toNat < (shs1 ++ shs2).length := by rw [hlen]; omega
  have hm := List.getElem_mem ri
  generalize hg : (shs1 ++ shs2)[r.toNat] = l at hm
  have hat : atI (shD shs1 ++ shD shs2) r = some (.tup (l.map .int)) := by
    have e : shD shs1 ++ shD shs2 = shD (shs1 ++ shs2) := by simp [shD]
    rw [e, atN r0 (by simp only [shD, List.length_map, hlen]; omega)]
    simp only [shD]
    rw [List.getElem?_map, List.getElem?_eq_getElem ri, hg]
    rfl
  refine ⟨l, p / 13, hm, ?_⟩
  have key : b__law_shape [.ls [.fz (.int p)], .un] = some (.rt (.sh (.tup (l.map .int))) [.ls [.fz (.int (p / 13))], .fz (.lst (shD shs1 ++ shD shs2))]) := by
    unfold b__law_shape
    rw [seq_nx (r1 := [.ls [.fz (.int p)], .ls ((shD shs1).map .fz)]) (by rfl)]
    have sv : dSh (dVar 1) [.ls [.fz (.int p)], .ls ((shD shs1).map .fz)] = some (.lst (shD shs1), [.ls [.fz (.int p)], .fz (.lst (shD shs1))]) := by
      simp only [dSh, dVar, List.getElem?_cons_succ, List.getElem?_cons_zero, Option.bind_some, share, fzs_data]
      rfl
    have cat : gCatL [.lst (shD shs1), .lst (shD shs2)] = some (.newL (shD shs1 ++ shD shs2)) := cat_ok (by simp [shD, shs1, shs2])
    have s2 := asg_nw (i := 1) (op_eval (g := gCatL) (z := .newL (shD shs1 ++ shD shs2)) sv (fb := (dSh (dWith (fdCons (dSh (dWith (fdCons (dSh (dC (.int 2))) fdNil) gTupD)) (fdCons (dSh (dWith (fdCons (dSh (dC (.int 4))) (fdCons (dSh (dC (.int 3))) (fdCons (dSh (dC (.int 2))) fdNil))) gTupD)) fdNil)) gLstD))) (r2 := [.ls [.fz (.int p)], .fz (.lst (shD shs1))]) (b := .lst (shD shs2)) (by rfl) cat)
    rw [seq_nx s2]
    have sv2 : dSh (dVar 1) [.ls [.fz (.int p)], .ls ((shD shs1 ++ shD shs2).map .fz)] = some (.lst (shD shs1 ++ shD shs2), [.ls [.fz (.int p)], .fz (.lst (shD shs1 ++ shD shs2))]) := by
      simp only [dSh, dVar, List.getElem?_cons_succ, List.getElem?_cons_zero, Option.bind_some, share, fzs_data]
      rfl
    have hc : dSh (dCall fn__law_take (daCons (dVar 0) (daCons (dC (.int 13)) daNil))) [.ls [.fz (.int p)], .fz (.lst (shD shs1 ++ shD shs2))] = some (.int r, [.ls [.fz (.int (p / 13))], .fz (.lst (shD shs1 ++ shD shs2))]) := by
      simp [fnD, dRet, xLift, dBool, dAnd, dOr, dNot, dBl, dSh, dIsi, dVar, share, T.data, D.isi, D.bool, retW, outP, keepP, dSeq, dIf, xbLift, dC, dOp, dWith, fdCons, fdNil, D.items, Rs.w, dChain, gLe, gLt, gGt, gGe, gRI0, gRI, gAdd, gSubI, dAsg, mv, gdName, dDrop, dCallX, dCall, daCons, daNil, pars, back, putBack, resW, dIfE, dNext, dRaise, dItemsT, dItemsL, dFor, dLift, W.tm, dTru, truth, isFz, dAug, gMul1, dScal, dScalT, T.frz, D.scal, dUn, gNeg, gTupD, gLstD, xNot, xBl, gIx, dSl, gSlT, pAt, pNo, dMv, gInt, dInR, ht]
    have gi : gIx [.lst (shD shs1 ++ shD shs2), .int r] = some (.val (.tup (l.map .int))) := by
      simp only [gIx, D.items, Option.bind_some, hat]
    have o := op_eval (g := gIx) sv2 hc gi
    change dRet (xLift (dOp gIx (dSh (dVar 1)) (dSh (dCall fn__law_take (daCons (dVar 0) (daCons (dC (.int 13)) daNil)))))) [.ls [.fz (.int p)], .ls ((shD shs1 ++ shD shs2).map .fz)] = _
    unfold dRet xLift
    rw [o]
    rfl
  have q := fn_rt (n := 1) (N := 2) (fx := [true]) (b := b__law_shape) (ps := ([T.ls [T.fz (.int p)]] : List T)) (d := .tup (l.map .int)) (r := ([T.ls [T.fz (.int (p / 13))], T.fz (.lst (shD shs1 ++ shD shs2))] : List T)) rfl key (by simp)
  exact q
theorem v__law_named {sh : List D} (hs : GSh sh) {w : Str} (p : Int) : ∃ (i j p' : Int), vOK sh [.int i, .int j] = true ∧ fn__law_named [.ls [.fz (.int p)], .fz (.str w), .fz (.tup sh)] = some (.ret (.fz (.tup [.str w, .int i, .int j])), [.ls [.fz (.int p')], .fz (.str w), .fz (.tup sh)]) := by
  obtain ⟨l, rfl, hx, h1, h3, _⟩ := hs.ex
  have n0 : (0 : Int) < (l.length : Int) := by omega
  have ht := take_at (p := p) (k := l.length) n0 (by omega)
  have r0 := Int.emod_nonneg p (show (l.length : Int) ≠ 0 by omega)
  have r1 := Int.emod_lt_of_pos p n0
  generalize hr : p % (l.length : Int) = r at *
  have ri : r.toNat < l.length := by omega
  obtain ⟨v1, v4⟩ := hx l[r.toNat] (List.getElem_mem ri)
  have hg : (l.map D.int)[r.toNat]? = some (.int l[r.toNat]) := by rw [List.getElem?_map, List.getElem?_eq_getElem ri]; rfl
  have hat : atI (l.map D.int) r = some (.int l[r.toNat]) := by
    rw [atN r0 (by rw [List.length_map]; exact r1)]
    exact hg
  have ht2 := take_at (p := p / (l.length : Int)) (k := l[r.toNat]) (by omega) (by omega)
  have q0 := Int.emod_nonneg (p / (l.length : Int)) (show l[r.toNat] ≠ 0 by omega)
  have q1 := Int.emod_lt_of_pos (p / (l.length : Int)) (show 0 < l[r.toNat] by omega)
  generalize hq : (p / (l.length : Int)) % l[r.toNat] = q at *
  refine ⟨r, q, p / (l.length : Int) / l[r.toNat], ?_, ?_⟩
  · simp only [vOK, hg, blw, Bool.and_eq_true, decide_eq_true_eq]
    exact ⟨r0, q0, q1⟩
  · simp [fn__law_named, b__law_named, fnD, dRet, xLift, dBool, dAnd, dOr, dNot, dBl, dSh, dIsi, dVar, share, T.data, D.isi, D.bool, retW, outP, keepP, dSeq, dIf, xbLift, dC, dOp, dWith, fdCons, fdNil, D.items, Rs.w, dChain, gLe, gLt, gGt, gGe, gRI0, gRI, gAdd, gSubI, dAsg, mv, gdName, dDrop, dCallX, dCall, daCons, daNil, pars, back, putBack, resW, dIfE, dNext, dRaise, dItemsT, dItemsL, dFor, dLift, W.tm, dTru, truth, isFz, dAug, gMul1, dScal, dScalT, T.frz, D.scal, dUn, gNeg, gTupD, gLstD, xNot, xBl, gIx, dSl, gSlT, pAt, pNo, dMv, gInt, dInR, len_tup, ht, hat, ht2]
theorem pick2 (a b : D) {i : Int} (h0 : 0 ≤ i) (h1 : i < 2) : ∃ d, (d = a ∨ d = b) ∧ atI [a, b] i = some d := by
  have : i = 0 ∨ i = 1 := by omega
  rcases this with rfl | rfl
  · exact ⟨a, Or.inl rfl, rfl⟩
  · exact ⟨b, Or.inr rfl, rfl⟩
theorem pick3 (a b c : D) {i : Int} (h0 : 0 ≤ i) (h1 : i < 3) : ∃ d, (d = a ∨ d = b ∨ d = c) ∧ atI [a, b, c] i = some d := by
  have : i = 0 ∨ i = 1 ∨ i = 2 := by omega
  rcases this with rfl | rfl | rfl
  · exact ⟨a, Or.inl rfl, rfl⟩
  · exact ⟨b, Or.inr (Or.inl rfl), rfl⟩
  · exact ⟨c, Or.inr (Or.inr rfl), rfl⟩
theorem v__law_test {sh : List D} (hs : GSh sh) : ∀ (n k : Nat) (p : Int), n < k → ∃ (s : Sy) (p' : Int), okT sh s = true ∧ sz s + 1 ≤ 2 ^ (n + 1) ∧ hgt s ≤ n + 1 ∧ fn__law_test k [.ls [.fz (.int p)], .fz (.tup sh), .fz (.int n)] = some (.ret (.fz s.d), [.ls [.fz (.int p')], .fz (.tup sh), .fz (.int n)]) := by
  intro n
  induction n with
  | zero =>
    intro k p hk
    obtain ⟨k, rfl⟩ : ∃ j, k = j + 1 := ⟨k - 1, by omega⟩
    have ht := take_at (p := p) (k := 9) (by decide) (by decide)
    have r0 := Int.emod_nonneg p (show (9 : Int) ≠ 0 by decide)
    have r1 := Int.emod_lt_of_pos p (show (0 : Int) < 9 by decide)
    generalize hr : p % 9 = r at *
    by_cases c : r = 3
    · subst c
      have ht2 := take_at (p := p / 9) (k := 2) (by decide) (by decide)
      obtain ⟨d, hd, hat⟩ := pick2 (.tup [.str "yes"]) (.tup [.str "no"]) (Int.emod_nonneg (p / 9) (by decide)) (Int.emod_lt_of_pos (p / 9) (show (0 : Int) < 2 by decide))
      rcases hd with rfl | rfl
      · refine ⟨.yes, p / 9 / 2, rfl, by simp [sz], by simp [hgt], ?_⟩
        simp [fn__law_test, b__law_test, fnD, dRet, xLift, dBool, dAnd, dOr, dNot, dBl, dSh, dIsi, dVar, share, T.data, D.isi, D.bool, retW, outP, keepP, dSeq, dIf, xbLift, dC, dOp, dWith, fdCons, fdNil, D.items, Rs.w, dChain, gLe, gLt, gGt, gGe, gRI0, gRI, gAdd, gSubI, dAsg, mv, gdName, dDrop, dCallX, dCall, daCons, daNil, pars, back, putBack, resW, dIfE, dNext, dRaise, dItemsT, dItemsL, dFor, dLift, W.tm, dTru, truth, isFz, dAug, gMul1, dScal, dScalT, T.frz, D.scal, dUn, gNeg, gTupD, gLstD, xNot, xBl, gIx, dSl, gSlT, pAt, pNo, dMv, gInt, dInR, ht, ht2, eq_int, dataL, hat, Sy.d]
      · refine ⟨.no, p / 9 / 2, rfl, by simp [sz], by simp [hgt], ?_⟩
        simp [fn__law_test, b__law_test, fnD, dRet, xLift, dBool, dAnd, dOr, dNot, dBl, dSh, dIsi, dVar, share, T.data, D.isi, D.bool, retW, outP, keepP, dSeq, dIf, xbLift, dC, dOp, dWith, fdCons, fdNil, D.items, Rs.w, dChain, gLe, gLt, gGt, gGe, gRI0, gRI, gAdd, gSubI, dAsg, mv, gdName, dDrop, dCallX, dCall, daCons, daNil, pars, back, putBack, resW, dIfE, dNext, dRaise, dItemsT, dItemsL, dFor, dLift, W.tm, dTru, truth, isFz, dAug, gMul1, dScal, dScalT, T.frz, D.scal, dUn, gNeg, gTupD, gLstD, xNot, xBl, gIx, dSl, gSlT, pAt, pNo, dMv, gInt, dInR, ht, ht2, eq_int, dataL, hat, Sy.d]
    · obtain ⟨i, j, p', hv, hc⟩ := v__law_named (w := "is") hs (p / 9)
      have c' : (r == 3) = false := by simpa using c
      refine ⟨.is i j, p', hv, by simp [sz], by simp [hgt], ?_⟩
      simp [fn__law_test, b__law_test, fnD, dRet, xLift, dBool, dAnd, dOr, dNot, dBl, dSh, dIsi, dVar, share, T.data, D.isi, D.bool, retW, outP, keepP, dSeq, dIf, xbLift, dC, dOp, dWith, fdCons, fdNil, D.items, Rs.w, dChain, gLe, gLt, gGt, gGe, gRI0, gRI, gAdd, gSubI, dAsg, mv, gdName, dDrop, dCallX, dCall, daCons, daNil, pars, back, putBack, resW, dIfE, dNext, dRaise, dItemsT, dItemsL, dFor, dLift, W.tm, dTru, truth, isFz, dAug, gMul1, dScal, dScalT, T.frz, D.scal, dUn, gNeg, gTupD, gLstD, xNot, xBl, gIx, dSl, gSlT, pAt, pNo, dMv, gInt, dInR, ht, eq_int, c, c', hc, Sy.d]
  | succ n ih =>
    intro k p hk
    obtain ⟨k, rfl⟩ : ∃ j, k = j + 1 := ⟨k - 1, by omega⟩
    have ht := take_at (p := p) (k := 9) (by decide) (by decide)
    have r0 := Int.emod_nonneg p (show (9 : Int) ≠ 0 by decide)
    have r1 := Int.emod_lt_of_pos p (show (0 : Int) < 9 by decide)
    generalize hr : p % 9 = r at *
    have nz : ((n : Int) + 1 == 0) = false := by simp; omega
    have nz' : ¬ ((n : Int) + 1 = 0) := by omega
    have n1 : ((n : Int) + 1 - 1) = n := by omega
    have cast : ((n + 1 : Nat) : Int) = (n : Int) + 1 := by omega
    have p2 : 2 ^ (n + 1 + 1) = 2 * 2 ^ (n + 1) := by rw [Nat.pow_succ]; omega
    have p1 : 2 ≤ 2 ^ (n + 1) := by rw [Nat.pow_succ]; have := Nat.one_le_pow n 2 (by decide); omega
    rw [cast, p2]
    by_cases c4 : r < 4
    · by_cases c : r = 3
      · subst c
        have ht2 := take_at (p := p / 9) (k := 2) (by decide) (by decide)
        obtain ⟨d, hd, hat⟩ := pick2 (.tup [.str "yes"]) (.tup [.str "no"]) (Int.emod_nonneg (p / 9) (by decide)) (Int.emod_lt_of_pos (p / 9) (show (0 : Int) < 2 by decide))
        rcases hd with rfl | rfl
        · refine ⟨.yes, p / 9 / 2, rfl, by simp only [sz]; omega, by simp [hgt], ?_⟩
          simp [fn__law_test, b__law_test, fnD, dRet, xLift, dBool, dAnd, dOr, dNot, dBl, dSh, dIsi, dVar, share, T.data, D.isi, D.bool, retW, outP, keepP, dSeq, dIf, xbLift, dC, dOp, dWith, fdCons, fdNil, D.items, Rs.w, dChain, gLe, gLt, gGt, gGe, gRI0, gRI, gAdd, gSubI, dAsg, mv, gdName, dDrop, dCallX, dCall, daCons, daNil, pars, back, putBack, resW, dIfE, dNext, dRaise, dItemsT, dItemsL, dFor, dLift, W.tm, dTru, truth, isFz, dAug, gMul1, dScal, dScalT, T.frz, D.scal, dUn, gNeg, gTupD, gLstD, xNot, xBl, gIx, dSl, gSlT, pAt, pNo, dMv, gInt, dInR, ht, ht2, eq_int, nz, nz', dataL, hat, Sy.d]
        · refine ⟨.no, p / 9 / 2, rfl, by simp only [sz]; omega, by simp [hgt], ?_⟩
          simp [fn__law_test, b__law_test, fnD, dRet, xLift, dBool, dAnd, dOr, dNot, dBl, dSh, dIsi, dVar, share, T.data, D.isi, D.bool, retW, outP, keepP, dSeq, dIf, xbLift, dC, dOp, dWith, fdCons, fdNil, D.items, Rs.w, dChain, gLe, gLt, gGt, gGe, gRI0, gRI, gAdd, gSubI, dAsg, mv, gdName, dDrop, dCallX, dCall, daCons, daNil, pars, back, putBack, resW, dIfE, dNext, dRaise, dItemsT, dItemsL, dFor, dLift, W.tm, dTru, truth, isFz, dAug, gMul1, dScal, dScalT, T.frz, D.scal, dUn, gNeg, gTupD, gLstD, xNot, xBl, gIx, dSl, gSlT, pAt, pNo, dMv, gInt, dInR, ht, ht2, eq_int, nz, nz', dataL, hat, Sy.d]
      · obtain ⟨i, j, p', hv, hc⟩ := v__law_named (w := "is") hs (p / 9)
        have c' : (r == 3) = false := by simpa using c
        refine ⟨.is i j, p', hv, by simp only [sz]; omega, by simp [hgt], ?_⟩
        simp [fn__law_test, b__law_test, fnD, dRet, xLift, dBool, dAnd, dOr, dNot, dBl, dSh, dIsi, dVar, share, T.data, D.isi, D.bool, retW, outP, keepP, dSeq, dIf, xbLift, dC, dOp, dWith, fdCons, fdNil, D.items, Rs.w, dChain, gLe, gLt, gGt, gGe, gRI0, gRI, gAdd, gSubI, dAsg, mv, gdName, dDrop, dCallX, dCall, daCons, daNil, pars, back, putBack, resW, dIfE, dNext, dRaise, dItemsT, dItemsL, dFor, dLift, W.tm, dTru, truth, isFz, dAug, gMul1, dScal, dScalT, T.frz, D.scal, dUn, gNeg, gTupD, gLstD, xNot, xBl, gIx, dSl, gSlT, pAt, pNo, dMv, gInt, dInR, ht, eq_int, nz, nz', c4, c, c', hc, Sy.d]
    · obtain ⟨a, q1, oa, za, ga, ha⟩ := ih k (p / 9) (by omega)
      by_cases c6 : r < 6
      · refine ⟨.nt a, q1, oa, by simp only [sz]; omega, by simp only [hgt]; omega, ?_⟩
        simp only [Sy.d]
        generalize a.d = da at ha ⊢
        simp [fn__law_test, b__law_test, fnD, dRet, xLift, dBool, dAnd, dOr, dNot, dBl, dSh, dIsi, dVar, share, T.data, D.isi, D.bool, retW, outP, keepP, dSeq, dIf, xbLift, dC, dOp, dWith, fdCons, fdNil, D.items, Rs.w, dChain, gLe, gLt, gGt, gGe, gRI0, gRI, gAdd, gSubI, dAsg, mv, gdName, dDrop, dCallX, dCall, daCons, daNil, pars, back, putBack, resW, dIfE, dNext, dRaise, dItemsT, dItemsL, dFor, dLift, W.tm, dTru, truth, isFz, dAug, gMul1, dScal, dScalT, T.frz, D.scal, dUn, gNeg, gTupD, gLstD, xNot, xBl, gIx, dSl, gSlT, pAt, pNo, dMv, gInt, dInR, ht, eq_int, nz, nz', c4, c6, n1, ha]
      · obtain ⟨b, q2, ob, zb, gb, hb⟩ := ih k q1 (by omega)
        obtain ⟨x, hx, hat⟩ := pick2 (.str "then") (.str "either") (Int.emod_nonneg r (by decide)) (Int.emod_lt_of_pos r (show (0 : Int) < 2 by decide))
        rcases hx with rfl | rfl
        · refine ⟨.thn a b, q2, by simp [okT, oa, ob], by simp only [sz]; omega, by simp only [hgt]; omega, ?_⟩
          simp only [Sy.d]
          generalize a.d = da at ha ⊢
          generalize b.d = db at hb ⊢
          simp [fn__law_test, b__law_test, fnD, dRet, xLift, dBool, dAnd, dOr, dNot, dBl, dSh, dIsi, dVar, share, T.data, D.isi, D.bool, retW, outP, keepP, dSeq, dIf, xbLift, dC, dOp, dWith, fdCons, fdNil, D.items, Rs.w, dChain, gLe, gLt, gGt, gGe, gRI0, gRI, gAdd, gSubI, dAsg, mv, gdName, dDrop, dCallX, dCall, daCons, daNil, pars, back, putBack, resW, dIfE, dNext, dRaise, dItemsT, dItemsL, dFor, dLift, W.tm, dTru, truth, isFz, dAug, gMul1, dScal, dScalT, T.frz, D.scal, dUn, gNeg, gTupD, gLstD, xNot, xBl, gIx, dSl, gSlT, pAt, pNo, dMv, gInt, dInR, ht, eq_int, nz, nz', c4, c6, n1, ha, hb, dataL, gMod, hat]
        · refine ⟨.eit a b, q2, by simp [okT, oa, ob], by simp only [sz]; omega, by simp only [hgt]; omega, ?_⟩
          simp only [Sy.d]
          generalize a.d = da at ha ⊢
          generalize b.d = db at hb ⊢
          simp [fn__law_test, b__law_test, fnD, dRet, xLift, dBool, dAnd, dOr, dNot, dBl, dSh, dIsi, dVar, share, T.data, D.isi, D.bool, retW, outP, keepP, dSeq, dIf, xbLift, dC, dOp, dWith, fdCons, fdNil, D.items, Rs.w, dChain, gLe, gLt, gGt, gGe, gRI0, gRI, gAdd, gSubI, dAsg, mv, gdName, dDrop, dCallX, dCall, daCons, daNil, pars, back, putBack, resW, dIfE, dNext, dRaise, dItemsT, dItemsL, dFor, dLift, W.tm, dTru, truth, isFz, dAug, gMul1, dScal, dScalT, T.frz, D.scal, dUn, gNeg, gTupD, gLstD, xNot, xBl, gIx, dSl, gSlT, pAt, pNo, dMv, gInt, dInR, ht, eq_int, nz, nz', c4, c6, n1, ha, hb, dataL, gMod, hat]
end KQ
set_option Elab.async false
set_option linter.all false
set_option maxRecDepth 100000
set_option maxHeartbeats 8000000
namespace KQ
open PySem PySem.Spec PyProof.Rows L2 Q
abbrev ones (m : Nat) : List T := (List.replicate m (D.int 1)).map .fz
theorem ones_succ (m : Nat) : ones (m + 1) = ones m ++ [.fz (.int 1)] := by simp [ones, List.replicate_succ']
theorem ones_frz (m : Nat) : (T.ls (ones m)).frz = .fz (.lst (List.replicate m (.int 1))) := by unfold T.frz; rw [fzs_data]
theorem pile_frz (p : Int) : (T.ls [.fz (.int p)]).frz = .fz (.lst [.int p]) := rfl
theorem notes_test {sh : List D} {N r p : Int} {m : Nat} : (xbLift (dScalT (dAnd (dBl (dSh (dOp gEq (dSh (dVar 4)) (dSh (dC (.int 0)))))) (dBl (dSh (dOp gGt (dSh (dLift (dScal (dSh (dWith (fdCons (dSh (dVar 3)) fdNil) gLen))))) (dSh (dC (.int 0))))))))) [.ls [.fz (.int p)], .fz (.tup sh), .fz (.int N), .ls (ones m), .fz (.int r), .un] = some (.inl (decide (r = 0 ∧ 0 < m)), [.ls [.fz (.int p)], .fz (.tup sh), .fz (.int N), .ls (ones m), .fz (.int r), .un]) := by
  have g : gLen [.lst (List.replicate m (.int 1))] = some (.val (.int m)) := by
    simp [gLen, D.items]
  have fz : ∀ d : D, (T.fz d).frz = .fz d := fun d => rfl
  have fu : T.un.frz = .un := rfl
  simp only [xbLift, dScalT, List.map_cons, List.map_nil, ones_frz, pile_frz, fz, fu]
  by_cases c : r = 0
  · subst c
    by_cases c2 : 0 < m
    · have c3 : (0 : Int) < (m : Int) := by omega
      simp [dAnd, dBl, dSh, dOp, dWith, fdCons, fdNil, dVar, dC, share, T.data, eq_int, Rs.w, D.bool, dLift, dScal, fz, fu, g, D.scal, gGt, gRI0, c2, c3]
    · have c3 : ¬ (0 : Int) < (m : Int) := by omega
      simp [dAnd, dBl, dSh, dOp, dWith, fdCons, fdNil, dVar, dC, share, T.data, eq_int, Rs.w, D.bool, dLift, dScal, fz, fu, g, D.scal, gGt, gRI0, c2, c3]
  · have c' : (r == 0) = false := by simpa using c
    simp [dAnd, dBl, dSh, dOp, dWith, fdCons, fdNil, dVar, dC, share, T.data, eq_int, Rs.w, D.bool, c, c']
def restS (self : FnT) (kk : Nat) : SD := (dSeq (dIf (xbLift (dOr (dBl (dSh (dOp gEq (dSh (dVar 2)) (dSh (dC (.int 0)))))) (dBl (dSh (dOp gLt (dSh (dVar 4)) (dSh (dC (.int 5)))))))) (dSeq (dIf (xbLift (dBl (dSh (dOp gEq (dSh (dVar 4)) (dSh (dC (.int 1))))))) (dRet (xLift (dOp gIx (dSh (dWith (fdCons (dSh (dWith (fdCons (dSh (dC (.str "yes"))) fdNil) gTupD)) (fdCons (dSh (dWith (fdCons (dSh (dC (.str "no"))) fdNil) gTupD)) (fdCons (dSh (dWith (fdCons (dSh (dC (.str "yes"))) fdNil) gTupD)) fdNil))) gLstD)) (dSh (dCall fn__law_take (daCons (dVar 0) (daCons (dC (.int 3)) daNil))))))) dNext)
    (dRet (xLift (dCall fn__law_named (daCons (dVar 0) (daCons (dOp gIx (dSh (dWith (fdCons (dSh (dC (.str "put"))) (fdCons (dSh (dC (.str "is"))) (fdCons (dSh (dC (.str "put"))) fdNil))) gLstD)) (dSh (dOp gMod (dSh (dVar 4)) (dSh (dC (.int 3)))))) (daCons (dVar 1) daNil))))))) dNext)
    (dSeq (dIf (xbLift (dBl (dSh (dOp gLt (dSh (dVar 4)) (dSh (dC (.int 7))))))) (dRet (xLift (dWith (fdCons (dSh (dC (.str "not"))) (fdCons (dSh (dCall (fn__law_test kk) (daCons (dVar 0) (daCons (dVar 1) (daCons (dWith (fdCons (dSh (dOp gSubI (dSh (dVar 2)) (dSh (dC (.int 1))))) (fdCons (dSh (dC (.int 2))) fdNil)) gMin2) daNil))))) fdNil)) gTupD))) dNext)
    (dSeq (dIf (xbLift (dBl (dSh (dOp gLt (dSh (dVar 4)) (dSh (dC (.int 9))))))) (dRet (xLift (dWith (fdCons (dSh (dC (.str "again"))) (fdCons (dSh (dCall self (daCons (dVar 0) (daCons (dVar 1) (daCons (dOp gSubI (dSh (dVar 2)) (dSh (dC (.int 1)))) (daCons (dVar 3) daNil)))))) fdNil)) gTupD))) dNext)
    (dSeq (dAsg (xLift (dCall self (daCons (dVar 0) (daCons (dVar 1) (daCons (dOp gSubI (dSh (dVar 2)) (dSh (dC (.int 1)))) (daCons (dVar 3) daNil)))))) (gdName 5))
    (dRet (xLift (dWith (fdCons (dSh (dOp gIx (dSh (dWith (fdCons (dSh (dC (.str "then"))) (fdCons (dSh (dC (.str "either"))) fdNil)) gLstD)) (dSh (dOp gMod (dSh (dVar 4)) (dSh (dC (.int 2))))))) (fdCons (dSh (dVar 5)) (fdCons (dSh (dCall self (daCons (dVar 0) (daCons (dVar 1) (daCons (dOp gSubI (dSh (dVar 2)) (dSh (dC (.int 1)))) (daCons (dVar 3) daNil)))))) fdNil))) gTupD)))))))
theorem flatS {self : FnT} {kk : Nat} {sh : List D} {N p r : Int} {m : Nat} (hs : GSh sh) (r0 : 0 ≤ r) (hn : N = 0 ∨ r < 5) : ∃ (s : Sy) (p' : Int), okS sh s = true ∧ notes s = 0 ∧ sz s = 1 ∧ hgt s = 1 ∧ restS self kk [.ls [.fz (.int p)], .fz (.tup sh), .fz (.int N), .ls (ones m), .fz (.int r), .un] = some (.rt (.sh s.d) [.ls [.fz (.int p')], .fz (.tup sh), .fz (.int N), .ls (ones m), .fz (.int r), .un]) := by
  generalize ones m = L
  have tt : (xbLift (dOr (dBl (dSh (dOp gEq (dSh (dVar 2)) (dSh (dC (.int 0)))))) (dBl (dSh (dOp gLt (dSh (dVar 4)) (dSh (dC (.int 5)))))))) [.ls [.fz (.int p)], .fz (.tup sh), .fz (.int N), .ls L, .fz (.int r), .un] = some (.inl true, [.ls [.fz (.int p)], .fz (.tup sh), .fz (.int N), .ls L, .fz (.int r), .un]) := by
    by_cases z : N = 0
    · subst z; simp [fnD, dRet, xLift, dBool, dAnd, dOr, dNot, dBl, dSh, dIsi, dVar, share, T.data, D.isi, D.bool, retW, outP, keepP, dSeq, dIf, xbLift, dC, dOp, dWith, fdCons, fdNil, D.items, Rs.w, dChain, gLe, gLt, gGt, gGe, gRI0, gRI, gAdd, gSubI, dAsg, mv, gdName, dDrop, dCallX, dCall, daCons, daNil, pars, back, putBack, resW, dIfE, dNext, dRaise, dItemsT, dItemsL, dFor, dLift, W.tm, dTru, truth, isFz, dAug, gMul1, dScal, dScalT, T.frz, D.scal, dUn, gNeg, gTupD, gLstD, xNot, xBl, gIx, dSl, gSlT, pAt, pNo, dMv, gInt, dInR, eq_int]
    · have z' : (N == 0) = false := by simpa using z
      have : r < 5 := hn.resolve_left z
      simp [fnD, dRet, xLift, dBool, dAnd, dOr, dNot, dBl, dSh, dIsi, dVar, share, T.data, D.isi, D.bool, retW, outP, keepP, dSeq, dIf, xbLift, dC, dOp, dWith, fdCons, fdNil, D.items, Rs.w, dChain, gLe, gLt, gGt, gGe, gRI0, gRI, gAdd, gSubI, dAsg, mv, gdName, dDrop, dCallX, dCall, daCons, daNil, pars, back, putBack, resW, dIfE, dNext, dRaise, dItemsT, dItemsL, dFor, dLift, W.tm, dTru, truth, isFz, dAug, gMul1, dScal, dScalT, T.frz, D.scal, dUn, gNeg, gTupD, gLstD, xNot, xBl, gIx, dSl, gSlT, pAt, pNo, dMv, gInt, dInR, eq_int, z, z', this]
  by_cases c : r = 1
  · subst c
    have ht2 := take_at (p := p) (k := 3) (by decide) (by decide)
    obtain ⟨d, hd, hat⟩ := pick3 (.tup [.str "yes"]) (.tup [.str "no"]) (.tup [.str "yes"]) (Int.emod_nonneg p (by decide)) (Int.emod_lt_of_pos p (show (0 : Int) < 3 by decide))
    have hh : d = Sy.d .yes ∨ d = Sy.d .no := by rcases hd with rfl | rfl | rfl <;> simp [Sy.d]
    have go : restS self kk [.ls [.fz (.int p)], .fz (.tup sh), .fz (.int N), .ls L, .fz (.int 1), .un] = some (.rt (.sh d) [.ls [.fz (.int (p / 3))], .fz (.tup sh), .fz (.int N), .ls L, .fz (.int 1), .un]) := by
      unfold restS
      refine seq_rt ?_
      unfold dIf
      rw [tt]
      simp [fnD, dRet, xLift, dBool, dAnd, dOr, dNot, dBl, dSh, dIsi, dVar, share, T.data, D.isi, D.bool, retW, outP, keepP, dSeq, dIf, xbLift, dC, dOp, dWith, fdCons, fdNil, D.items, Rs.w, dChain, gLe, gLt, gGt, gGe, gRI0, gRI, gAdd, gSubI, dAsg, mv, gdName, dDrop, dCallX, dCall, daCons, daNil, pars, back, putBack, resW, dIfE, dNext, dRaise, dItemsT, dItemsL, dFor, dLift, W.tm, dTru, truth, isFz, dAug, gMul1, dScal, dScalT, T.frz, D.scal, dUn, gNeg, gTupD, gLstD, xNot, xBl, gIx, dSl, gSlT, pAt, pNo, dMv, gInt, dInR, eq_int, ht2, dataL, hat]
    rcases hh with rfl | rfl
    · exact ⟨.yes, p / 3, rfl, rfl, rfl, rfl, go⟩
    · exact ⟨.no, p / 3, rfl, rfl, rfl, rfl, go⟩
  · have c' : (r == 1) = false := by simpa using c
    obtain ⟨d, hd, hat⟩ := pick3 (.str "put") (.str "is") (.str "put") (Int.emod_nonneg r (by decide)) (Int.emod_lt_of_pos r (show (0 : Int) < 3 by decide))
    have hh : d = .str "put" ∨ d = .str "is" := by rcases hd with rfl | rfl | rfl <;> simp
    have go : ∀ (w : Str) (i j p' : Int), atI ([.str "put", .str "is", .str "put"] : List D) (r % 3) = some (.str w) → fn__law_named [.ls [.fz (.int p)], .fz (.str w), .fz (.tup sh)] = some (.ret (.fz (.tup [.str w, .int i, .int j])), [.ls [.fz (.int p')], .fz (.str w), .fz (.tup sh)]) → restS self kk [.ls [.fz (.int p)], .fz (.tup sh), .fz (.int N), .ls L, .fz (.int r), .un] = some (.rt (.sh (.tup [.str w, .int i, .int j])) [.ls [.fz (.int p')], .fz (.tup sh), .fz (.int N), .ls L, .fz (.int r), .un]) := by
      intro w i j p' ha hc
      unfold restS
      refine seq_rt ?_
      unfold dIf
      rw [tt]
      simp [fnD, dRet, xLift, dBool, dAnd, dOr, dNot, dBl, dSh, dIsi, dVar, share, T.data, D.isi, D.bool, retW, outP, keepP, dSeq, dIf, xbLift, dC, dOp, dWith, fdCons, fdNil, D.items, Rs.w, dChain, gLe, gLt, gGt, gGe, gRI0, gRI, gAdd, gSubI, dAsg, mv, gdName, dDrop, dCallX, dCall, daCons, daNil, pars, back, putBack, resW, dIfE, dNext, dRaise, dItemsT, dItemsL, dFor, dLift, W.tm, dTru, truth, isFz, dAug, gMul1, dScal, dScalT, T.frz, D.scal, dUn, gNeg, gTupD, gLstD, xNot, xBl, gIx, dSl, gSlT, pAt, pNo, dMv, gInt, dInR, eq_int, c, c', dataL, gMod, ha, hc]
    rcases hh with rfl | rfl
    · obtain ⟨i, j, p', hv, hc⟩ := v__law_named (w := "put") hs p
      exact ⟨.put i j, p', hv, rfl, rfl, rfl, go _ i j p' hat hc⟩
    · obtain ⟨i, j, p', hv, hc⟩ := v__law_named (w := "is") hs p
      exact ⟨.is i j, p', hv, rfl, rfl, rfl, go _ i j p' hat hc⟩
theorem say_wrap {k : Nat} {sh : List D} {N p p' : Int} {m m' : Nat} {d : D} {a b : T} (e : b__law_saying (fn__law_saying k) k [.ls [.fz (.int p)], .fz (.tup sh), .fz (.int N), .ls (ones m), .un, .un] = some (.rt (.sh d) [.ls [.fz (.int p')], .fz (.tup sh), .fz (.int N), .ls (ones m'), a, b])) : fn__law_saying (k + 1) [.ls [.fz (.int p)], .fz (.tup sh), .fz (.int N), .ls (ones m)] = some (.ret (.fz d), [.ls [.fz (.int p')], .fz (.tup sh), .fz (.int N), .ls (ones m')]) := by
  have q := fn_rt (n := 4) (N := 6) (fx := [true, true, true, true]) (b := b__law_saying (fn__law_saying k) k) (ps := ([T.ls [T.fz (.int p)], T.fz (.tup sh), T.fz (.int N), T.ls (ones m)] : List T)) (d := d) (r := ([T.ls [T.fz (.int p')], T.fz (.tup sh), T.fz (.int N), T.ls (ones m'), a, b] : List T)) rfl e (by simp)
  exact q
theorem v__law_saying {sh : List D} (hs : GSh sh) : ∀ (n k : Nat) (p : Int) (m : Nat), n < k → ∃ (s : Sy) (p' : Int) (m' : Nat), okS sh s = true ∧ notes s + m' = m ∧ sz s + 1 ≤ 2 ^ (n + 1) ∧ hgt s ≤ n + 1 ∧ fn__law_saying k [.ls [.fz (.int p)], .fz (.tup sh), .fz (.int n), .ls (ones m)] = some (.ret (.fz s.d), [.ls [.fz (.int p')], .fz (.tup sh), .fz (.int n), .ls (ones m')]) := by
  have first : ∀ (n : Int) (p : Int) (m : Nat) (k : Nat) (r : Int), p % 16 = r → dAsg (xLift (dCall fn__law_take (daCons (dVar 0) (daCons (dC (.int 16)) daNil)))) (gdName 4) [.ls [.fz (.int p)], .fz (.tup sh), .fz (.int n), .ls (ones m), .un, .un] = some (.nx [.ls [.fz (.int (p / 16))], .fz (.tup sh), .fz (.int n), .ls (ones m), .fz (.int r), .un]) := by
    intro n p m k r hr
    have ht := take_at (p := p) (k := 16) (by decide) (by decide)
    rw [hr] at ht
    generalize ones m = L
    simp [fnD, dRet, xLift, dBool, dAnd, dOr, dNot, dBl, dSh, dIsi, dVar, share, T.data, D.isi, D.bool, retW, outP, keepP, dSeq, dIf, xbLift, dC, dOp, dWith, fdCons, fdNil, D.items, Rs.w, dChain, gLe, gLt, gGt, gGe, gRI0, gRI, gAdd, gSubI, dAsg, mv, gdName, dDrop, dCallX, dCall, daCons, daNil, pars, back, putBack, resW, dIfE, dNext, dRaise, dItemsT, dItemsL, dFor, dLift, W.tm, dTru, truth, isFz, dAug, gMul1, dScal, dScalT, T.frz, D.scal, dUn, gNeg, gTupD, gLstD, xNot, xBl, gIx, dSl, gSlT, pAt, pNo, dMv, gInt, dInR, ht]
  have note : ∀ (n p : Int) (m k : Nat), p % 16 = 0 → b__law_saying (fn__law_saying k) k [.ls [.fz (.int p)], .fz (.tup sh), .fz (.int n), .ls (ones (m + 1)), .un, .un] = some (.rt (.sh (.tup [.str "note"])) [.ls [.fz (.int (p / 16))], .fz (.tup sh), .fz (.int n), .ls (ones m), .fz (.int 0), .un]) := by
    intro n p m k hr
    unfold b__law_saying
    rw [seq_nx (first n p (m + 1) k 0 hr)]
    refine seq_rt ?_
    have nt := notes_test (sh := sh) (N := n) (r := 0) (p := p / 16) (m := m + 1)
    rw [decide_eq_true ⟨rfl, by omega⟩] at nt
    unfold dIf
    rw [nt]
    rw [ones_succ]
    generalize ones m = L
    simp [fnD, dRet, xLift, dBool, dAnd, dOr, dNot, dBl, dSh, dIsi, dVar, share, T.data, D.isi, D.bool, retW, outP, keepP, dSeq, dIf, xbLift, dC, dOp, dWith, fdCons, fdNil, D.items, Rs.w, dChain, gLe, gLt, gGt, gGe, gRI0, gRI, gAdd, gSubI, dAsg, mv, gdName, dDrop, dCallX, dCall, daCons, daNil, pars, back, putBack, resW, dIfE, dNext, dRaise, dItemsT, dItemsL, dFor, dLift, W.tm, dTru, truth, isFz, dAug, gMul1, dScal, dScalT, T.frz, D.scal, dUn, gNeg, gTupD, gLstD, xNot, xBl, gIx, dSl, gSlT, pAt, pNo, dMv, gInt, dInR, dPop]
  have other : ∀ (n p r : Int) (m k : Nat), p % 16 = r → ¬ (r = 0 ∧ 0 < m) → b__law_saying (fn__law_saying k) k [.ls [.fz (.int p)], .fz (.tup sh), .fz (.int n), .ls (ones m), .un, .un] = restS (fn__law_saying k) k [.ls [.fz (.int (p / 16))], .fz (.tup sh), .fz (.int n), .ls (ones m), .fz (.int r), .un] := by
    intro n p r m k hr hno
    unfold b__law_saying
    rw [seq_nx (first n p m k r hr)]
    have nt := notes_test (sh := sh) (N := n) (r := r) (p := p / 16) (m := m)
    rw [decide_eq_false hno] at nt
    rw [seq_nx (r1 := [.ls [.fz (.int (p / 16))], .fz (.tup sh), .fz (.int n), .ls (ones m), .fz (.int r), .un]) (by unfold dIf; rw [nt]; rfl)]
    rfl
  intro n
  induction n with
  | zero =>
    intro k p m hk
    obtain ⟨k, rfl⟩ : ∃ j, k = j + 1 := ⟨k - 1, by omega⟩
    have r0 := Int.emod_nonneg p (show (16 : Int) ≠ 0 by decide)
    by_cases c : p % 16 = 0 ∧ 0 < m
    · obtain ⟨m, rfl⟩ : ∃ j, m = j + 1 := ⟨m - 1, by omega⟩
      exact ⟨.note, p / 16, m, rfl, by simp [notes]; omega, by simp [sz], by simp [hgt], say_wrap (note _ p m k c.1)⟩
    · obtain ⟨s, p', h1, h2, h3, h4, h5⟩ := flatS (self := fn__law_saying k) (kk := k) (p := p / 16) (m := m) (N := ((0 : Nat) : Int)) hs r0 (Or.inl rfl)
      exact ⟨s, p', m, h1, by omega, by omega, by omega, say_wrap ((other _ p _ m k rfl c).trans h5)⟩
  | succ n ih =>
    intro k p m hk
    obtain ⟨k, rfl⟩ : ∃ j, k = j + 1 := ⟨k - 1, by omega⟩
    have r0 := Int.emod_nonneg p (show (16 : Int) ≠ 0 by decide)
    have p2 : 2 ^ (n + 1 + 1) = 2 * 2 ^ (n + 1) := by rw [Nat.pow_succ]; omega
    have p1 : 2 ≤ 2 ^ (n + 1) := by rw [Nat.pow_succ]; have := Nat.one_le_pow n 2 (by decide); omega
    have cast : ((n + 1 : Nat) : Int) = (n : Int) + 1 := by omega
    rw [cast, p2]
    by_cases c : p % 16 = 0 ∧ 0 < m
    · obtain ⟨m, rfl⟩ : ∃ j, m = j + 1 := ⟨m - 1, by omega⟩
      exact ⟨.note, p / 16, m, rfl, by simp [notes]; omega, by simp only [sz]; omega, by simp [hgt], say_wrap (note _ p m k c.1)⟩
    · have ot := other ((n : Int) + 1) p _ m k rfl c
      generalize hr : p % 16 = r at *
      by_cases c5 : r < 5
      · obtain ⟨s, p', h1, h2, h3, h4, h5⟩ := flatS (self := fn__law_saying k) (kk := k) (p := p / 16) (m := m) (N := (n : Int) + 1) hs r0 (Or.inr c5)
        exact ⟨s, p', m, h1, by omega, by omega, by omega, say_wrap (ot.trans h5)⟩
      · have nz : ((n : Int) + 1 == 0) = false := by simp; omega
        have nz' : ¬ ((n : Int) + 1 = 0) := by omega
        have n1 : ((n : Int) + 1 - 1) = n := by omega
        by_cases c7 : r < 7
        · obtain ⟨q, hq, hq2, hqn⟩ : ∃ q : Nat, (if (2 : Int) < (n : Int) then 2 else (n : Int)) = (q : Int) ∧ q ≤ n ∧ q ≤ 2 := by
            by_cases z : (2 : Int) < (n : Int)
            · rw [if_pos z]; exact ⟨2, rfl, by omega, by omega⟩
            · rw [if_neg z]; exact ⟨n, rfl, by omega, by omega⟩
          obtain ⟨a, p', oa, za, ga, ha⟩ := v__law_test hs q k (p / 16) (by omega)
          have pq : 2 ^ (q + 1) ≤ 2 ^ (n + 1) := Nat.pow_le_pow_right (by decide) (by omega)
          refine ⟨.nt a, p', m, oa, by simp [notes], by simp only [sz]; omega, by simp only [hgt]; omega, say_wrap (a := .fz (.int r)) (b := .un) (ot.trans ?_)⟩
          simp only [Sy.d]
          generalize a.d = da at ha ⊢
          generalize ones m = L
          simp [restS, fnD, dRet, xLift, dBool, dAnd, dOr, dNot, dBl, dSh, dIsi, dVar, share, T.data, D.isi, D.bool, retW, outP, keepP, dSeq, dIf, xbLift, dC, dOp, dWith, fdCons, fdNil, D.items, Rs.w, dChain, gLe, gLt, gGt, gGe, gRI0, gRI, gAdd, gSubI, dAsg, mv, gdName, dDrop, dCallX, dCall, daCons, daNil, pars, back, putBack, resW, dIfE, dNext, dRaise, dItemsT, dItemsL, dFor, dLift, W.tm, dTru, truth, isFz, dAug, gMul1, dScal, dScalT, T.frz, D.scal, dUn, gNeg, gTupD, gLstD, xNot, xBl, gIx, dSl, gSlT, pAt, pNo, dMv, gInt, dInR, eq_int, nz, nz', c5, c7, n1, gMin2, hq, ha]
        · by_cases c9 : r < 9
          · obtain ⟨a, p', m', oa, na, za, ga, ha⟩ := ih k (p / 16) m (by omega)
            refine ⟨.aga a, p', m', oa, by simp only [notes]; omega, by simp only [sz]; omega, by simp only [hgt]; omega, say_wrap (a := .fz (.int r)) (b := .un) (ot.trans ?_)⟩
            simp only [Sy.d]
            generalize a.d = da at ha ⊢
            generalize ones m = L at ha ⊢
            generalize ones m' = L' at ha ⊢
            simp [restS, fnD, dRet, xLift, dBool, dAnd, dOr, dNot, dBl, dSh, dIsi, dVar, share, T.data, D.isi, D.bool, retW, outP, keepP, dSeq, dIf, xbLift, dC, dOp, dWith, fdCons, fdNil, D.items, Rs.w, dChain, gLe, gLt, gGt, gGe, gRI0, gRI, gAdd, gSubI, dAsg, mv, gdName, dDrop, dCallX, dCall, daCons, daNil, pars, back, putBack, resW, dIfE, dNext, dRaise, dItemsT, dItemsL, dFor, dLift, W.tm, dTru, truth, isFz, dAug, gMul1, dScal, dScalT, T.frz, D.scal, dUn, gNeg, gTupD, gLstD, xNot, xBl, gIx, dSl, gSlT, pAt, pNo, dMv, gInt, dInR, eq_int, nz, nz', c5, c7, c9, n1, ha]
          · obtain ⟨a, p', m', oa, na, za, ga, ha⟩ := ih k (p / 16) m (by omega)
            obtain ⟨b, p'', m'', ob, nb, zb, gb, hb⟩ := ih k p' m' (by omega)
            obtain ⟨x, hx, hat⟩ := pick2 (.str "then") (.str "either") (Int.emod_nonneg r (by decide)) (Int.emod_lt_of_pos r (show (0 : Int) < 2 by decide))
            rcases hx with rfl | rfl
            · refine ⟨.thn a b, p'', m'', by simp [okS, oa, ob], by simp only [notes]; omega, by simp only [sz]; omega, by simp only [hgt]; omega, say_wrap (a := .fz (.int r)) (b := .fz a.d) (ot.trans ?_)⟩
              simp only [Sy.d]
              generalize a.d = da at ha ⊢
              generalize b.d = db at hb ⊢
              generalize ones m = L at ha ⊢
              generalize ones m' = L' at ha hb ⊢
              generalize ones m'' = L'' at hb ⊢
              simp [restS, fnD, dRet, xLift, dBool, dAnd, dOr, dNot, dBl, dSh, dIsi, dVar, share, T.data, D.isi, D.bool, retW, outP, keepP, dSeq, dIf, xbLift, dC, dOp, dWith, fdCons, fdNil, D.items, Rs.w, dChain, gLe, gLt, gGt, gGe, gRI0, gRI, gAdd, gSubI, dAsg, mv, gdName, dDrop, dCallX, dCall, daCons, daNil, pars, back, putBack, resW, dIfE, dNext, dRaise, dItemsT, dItemsL, dFor, dLift, W.tm, dTru, truth, isFz, dAug, gMul1, dScal, dScalT, T.frz, D.scal, dUn, gNeg, gTupD, gLstD, xNot, xBl, gIx, dSl, gSlT, pAt, pNo, dMv, gInt, dInR, eq_int, nz, nz', c5, c7, c9, n1, ha, hb, dataL, gMod, hat]
            · refine ⟨.eit a b, p'', m'', by simp [okS, oa, ob], by simp only [notes]; omega, by simp only [sz]; omega, by simp only [hgt]; omega, say_wrap (a := .fz (.int r)) (b := .fz a.d) (ot.trans ?_)⟩
              simp only [Sy.d]
              generalize a.d = da at ha ⊢
              generalize b.d = db at hb ⊢
              generalize ones m = L at ha ⊢
              generalize ones m' = L' at ha hb ⊢
              generalize ones m'' = L'' at hb ⊢
              simp [restS, fnD, dRet, xLift, dBool, dAnd, dOr, dNot, dBl, dSh, dIsi, dVar, share, T.data, D.isi, D.bool, retW, outP, keepP, dSeq, dIf, xbLift, dC, dOp, dWith, fdCons, fdNil, D.items, Rs.w, dChain, gLe, gLt, gGt, gGe, gRI0, gRI, gAdd, gSubI, dAsg, mv, gdName, dDrop, dCallX, dCall, daCons, daNil, pars, back, putBack, resW, dIfE, dNext, dRaise, dItemsT, dItemsL, dFor, dLift, W.tm, dTru, truth, isFz, dAug, gMul1, dScal, dScalT, T.frz, D.scal, dUn, gNeg, gTupD, gLstD, xNot, xBl, gIx, dSl, gSlT, pAt, pNo, dMv, gInt, dInR, eq_int, nz, nz', c5, c7, c9, n1, ha, hb, dataL, gMod, hat]
end KQ
set_option Elab.async false
set_option linter.all false
set_option maxRecDepth 100000
set_option maxHeartbeats 8000000
namespace KQ
open PySem PySem.Spec PyProof.Rows L2 Q
theorem v_check_saying {Z : Zs} {sh : List D} {s : Sy} (hs : GSh sh) (h : okS sh s = true) (hn : notes s ≤ 5) (hz : sz s ≤ 2800) : fn_check_saying Z [.fz (.tup sh), .fz s.d] = some (.ret (.fz .non), [.fz (.tup sh), .fz s.d]) := by
  have hl := lv_fin _ (fin_S hs s h)
  have hsz : s.d.size ≤ 900000 := Nat.le_trans (size_wt _) (Nat.le_trans (wt_d s) (by omega))
  have hv := v_is_saying (Z := Z) hs hl hsz
  have e : decide (ntd sh s.d < 6) = true := decide_eq_true (by rw [ntd_d s h]; omega)
  rw [e] at hv
  simp [fn_check_saying, b_check_saying, fnD, dRet, xLift, dBool, dAnd, dOr, dNot, dBl, dSh, dIsi, dVar, share, T.data, D.isi, D.bool, retW, outP, keepP, dSeq, dIf, xbLift, dC, dOp, dWith, fdCons, fdNil, D.items, Rs.w, dChain, gLe, gLt, gGt, gGe, gRI0, gRI, gAdd, gSubI, dAsg, mv, gdName, dDrop, dCallX, dCall, daCons, daNil, pars, back, putBack, resW, dIfE, dNext, dRaise, dItemsT, dItemsL, dFor, dLift, W.tm, dTru, truth, isFz, dAug, gMul1, dScal, dScalT, T.frz, D.scal, dUn, gNeg, gTupD, gLstD, xNot, xBl, gIx, dSl, gSlT, pAt, pNo, dMv, gInt, dInR, hv]
/-! ### what is handed in -/
theorem pick4 {i : Int} (h0 : 0 ≤ i) (h1 : i < 4) : ∃ m : Nat, m ≤ 5 ∧ atI ([.int 0, .int 1, .int 2, .int 5] : List D) i = some (.int (m : Int)) := by
  have : i = 0 ∨ i = 1 ∨ i = 2 ∨ i = 3 := by omega
  rcases this with rfl | rfl | rfl | rfl
  · exact ⟨0, by omega, rfl⟩
  · exact ⟨1, by omega, rfl⟩
  · exact ⟨2, by omega, rfl⟩
  · exact ⟨5, by omega, rfl⟩
/-- a shape and a saying of it -/
structure Pr (l : List Int) (s : Sy) : Prop where
  m : l ∈ shs1 ++ shs2
  ok : okS (l.map .int) s = true
  n5 : notes s ≤ 5
  z : sz s ≤ 31
  h : hgt s ≤ 5
theorem v__law_drawn {ns : List Int} {k : Int} (k0 : 0 ≤ k) (k4 : k < 10) : ∃ (l : List Int) (s : Sy), Pr l s ∧ fn__law_drawn [.fz (.scr ns), .fz (.int k), .fz (.int 4)] = some (.ret (.fz (.tup [.tup (l.map .int), s.d])), [.fz (.scr ns), .fz (.int k), .fz (.int 4)]) := by
  obtain ⟨c, hc⟩ := v__law_cell (ns := ns) (k := k) k0 (by omega)
  obtain ⟨l, p1, hl, hsh⟩ := v__law_shape c
  have ht := take_at (p := p1) (k := 4) (by decide) (by decide)
  obtain ⟨m, m5, hat⟩ := pick4 (Int.emod_nonneg p1 (by decide)) (Int.emod_lt_of_pos p1 (show (0 : Int) < 4 by decide))
  obtain ⟨s, p2, m', h1, h2, h3, h4, h5⟩ := v__law_saying (gsh_of hl) 4 FU (p1 / 4) m (by unfold FU; omega)
  have hsay : fn__law_saying FU [.ls [.fz (.int (p1 / 4))], .fz (.tup (l.map .int)), .fz (.int 4), .ls (ones m)] = some (.ret (.fz s.d), [.ls [.fz (.int p2)], .fz (.tup (l.map .int)), .fz (.int 4), .ls (ones m')]) := h5
  refine ⟨l, s, ⟨hl, h1, by omega, by have : sz s + 1 ≤ 32 := h3; omega, by omega⟩, ?_⟩
  have mm : (m : Int) ≤ 1000 := by omega
  have m0 : (0 : Int) ≤ (m : Int) := by omega
  have on : ∀ n : Nat, ones n = (List.replicate n (D.int 1)).map .fz := fun n => by simp [ones]
  have f2 : T.frz (.ls (ones m')) = .fz (.lst (List.replicate m' (D.int 1))) := ones_frz m'
  have e5 : (List.replicate (((m : Nat) : Int)).toNat (D.int 1)).map T.fz = ones m := by rw [on]; simp
  generalize s.d = sd at hsay ⊢
  apply fe__law_drawn
  · unfold b__law_drawn
    walk_at "st"
    walk_at "st"
    apply EV.seq
    · apply EV.asgN
      · apply EV.xl
        apply EV.mulL
        · walk_at "ev"
        · apply EV.shS
          apply EV.ixL
          · walk_at "ev"
          · walk_at "ev"
          · exact hat
        · exact m0
        · exact mm
      · rw [e5]
        walk_at "ev"
    walk_at "ev"
  walk_at "fin"
/-- what can be shown -/
structure ShoD (d : D) : Prop where
  f : fin d = true
  e : dep d ≤ 90
  w : wt d ≤ 200000
theorem shw_S {l : List Int} {s : Sy} (P : Pr l s) : ShoD s.d := by
  have h := P.h
  have z := P.z
  exact ⟨fin_S (gsh_of P.m) s P.ok, Nat.le_trans (dep_d s) (by omega), Nat.le_trans (wt_d s) (by omega)⟩
end KQ
set_option Elab.async false
set_option linter.all false
set_option maxRecDepth 100000
set_option maxHeartbeats 8000000
namespace KQ
open PySem PySem.Spec PyProof.Rows L2 Q
/-! ### a saying as a text -/
inductive It where
  | w (x : Str) | p (s : Sy)
def It.d : It → D
  | .w x => .str x
  | .p s => s.d
/-- the sign of a field, the mark, the figure -/
def lf (m : Str) (i j : Int) : Str := Str.empty ++ (⟨#[97 + i.toNat]⟩ : Str) ++ m ++ Str.ofString (toString j)
def pcs : Sy → List It
  | .yes => [.w "yes"]
  | .no => [.w "no"]
  | .note => [.w "note"]
  | .is i j => [.w (lf "=" i j)]
  | .put i j => [.w (lf ":" i j)]
  | .thn a b => [.w "(", .p a, .w ";", .p b, .w ")"]
  | .eit a b => [.w "(", .p a, .w "|", .p b, .w ")"]
  | .aga a => [.w "again", .w "(", .p a, .w ")"]
  | .nt a => [.w "not", .w "(", .p a, .w ")"]
/-- all that is written -/
def flat : Sy → List Str
  | .yes => ["yes"]
  | .no => ["no"]
  | .note => ["note"]
  | .is i j => [lf "=" i j]
  | .put i j => [lf ":" i j]
  | .thn a b => "(" :: (flat a ++ (";" : Str) :: (flat b ++ [(")" : Str)]))
  | .eit a b => "(" :: (flat a ++ ("|" : Str) :: (flat b ++ [(")" : Str)]))
  | .aga a => "again" :: "(" :: (flat a ++ [(")" : Str)])
  | .nt a => "not" :: "(" :: (flat a ++ [(")" : Str)])
def flI : It → List Str
  | .w x => [x]
  | .p s => flat s
theorem flat_pcs (s : Sy) : flat s = (pcs s).flatMap flI := by
  cases s <;> simp [flat, pcs, flI]
def small : Sy → Bool
  | .is i j => decide (0 ≤ i ∧ i < 3 ∧ 0 ≤ j ∧ j < 4)
  | .put i j => decide (0 ≤ i ∧ i < 3 ∧ 0 ≤ j ∧ j < 4)
  | .thn a b => small a && small b
  | .eit a b => small a && small b
  | .aga a => small a
  | .nt a => small a
  | _ => true
theorem small_T {sh : List D} (hs : GSh sh) : ∀ s : Sy, okT sh s = true → small s = true
  | .yes, _ => rfl
  | .no, _ => rfl
  | .note, h => rfl
  | .is i j, h => by
    obtain ⟨a, b, c, e, _⟩ := vOK_small hs (show vOK sh [.int i, .int j] = true from h)
    exact decide_eq_true ⟨a, b, c, e⟩
  | .put i j, h => by simp [okT] at h
  | .thn a b, h => by simp only [okT, Bool.and_eq_true] at h; simp only [small, small_T hs a h.1, small_T hs b h.2]; rfl
  | .eit a b, h => by simp only [okT, Bool.and_eq_true] at h; simp only [small, small_T hs a h.1, small_T hs b h.2]; rfl
  | .aga a, h => by simp [okT] at h
  | .nt a, h => by simp only [okT] at h; exact small_T hs a h
theorem small_S {sh : List D} (hs : GSh sh) : ∀ s : Sy, okS sh s = true → small s = true
  | .yes, _ => rfl
  | .no, _ => rfl
  | .note, h => rfl
  | .is i j, h => by
    obtain ⟨a, b, c, e, _⟩ := vOK_small hs (show vOK sh [.int i, .int j] = true from h)
    exact decide_eq_true ⟨a, b, c, e⟩
  | .put i j, h => by
    obtain ⟨a, b, c, e, _⟩ := vOK_small hs (show vOK sh [.int i, .int j] = true from h)
    exact decide_eq_true ⟨a, b, c, e⟩
  | .thn a b, h => by simp only [okS, Bool.and_eq_true] at h; simp only [small, small_S hs a h.1, small_S hs b h.2]; rfl
  | .eit a b, h => by simp only [okS, Bool.and_eq_true] at h; simp only [small, small_S hs a h.1, small_S hs b h.2]; rfl
  | .aga a, h => by simp only [okS] at h; exact small_S hs a h
  | .nt a, h => by simp only [okS] at h; exact small_T hs a h
theorem v_pieces_is {i j : Int} (h : 0 ≤ i ∧ i < 3 ∧ 0 ≤ j ∧ j < 4) : fn_pieces_of [.fz (.tup [.str "is", .int i, .int j])] = some (.ret (oL [.str (lf "=" i j)]), [.fz (.tup [.str "is", .int i, .int j])]) := by
  have hi : i = 0 ∨ i = 1 ∨ i = 2 := by omega
  have hj : j = 0 ∨ j = 1 ∨ j = 2 ∨ j = 3 := by omega
  rcases hi with rfl | rfl | rfl <;> rcases hj with rfl | rfl | rfl | rfl <;> kernel_rfl
theorem v_pieces_put {i j : Int} (h : 0 ≤ i ∧ i < 3 ∧ 0 ≤ j ∧ j < 4) : fn_pieces_of [.fz (.tup [.str "put", .int i, .int j])] = some (.ret (oL [.str (lf ":" i j)]), [.fz (.tup [.str "put", .int i, .int j])]) := by
  have hi : i = 0 ∨ i = 1 ∨ i = 2 := by omega
  have hj : j = 0 ∨ j = 1 ∨ j = 2 ∨ j = 3 := by omega
  rcases hi with rfl | rfl | rfl <;> rcases hj with rfl | rfl | rfl | rfl <;> kernel_rfl
theorem v_pieces_thn (a b : D) : fn_pieces_of [.fz (.tup [.str "then", a, b])] = some (.ret (oL [.str "(", a, .str ";", b, .str ")"]), [.fz (.tup [.str "then", a, b])]) := by kernel_rfl
theorem v_pieces_eit (a b : D) : fn_pieces_of [.fz (.tup [.str "either", a, b])] = some (.ret (oL [.str "(", a, .str "|", b, .str ")"]), [.fz (.tup [.str "either", a, b])]) := by kernel_rfl
theorem v_pieces_aga (a : D) : fn_pieces_of [.fz (.tup [.str "again", a])] = some (.ret (oL [.str "again", .str "(", a, .str ")"]), [.fz (.tup [.str "again", a])]) := by kernel_rfl
theorem v_pieces_nt (a : D) : fn_pieces_of [.fz (.tup [.str "not", a])] = some (.ret (oL [.str "not", .str "(", a, .str ")"]), [.fz (.tup [.str "not", a])]) := by kernel_rfl
theorem v_pieces_1 : fn_pieces_of [.fz (.tup [.str "yes"])] = some (.ret (oL [.str "yes"]), [.fz (.tup [.str "yes"])]) := by kernel_rfl
theorem v_pieces_2 : fn_pieces_of [.fz (.tup [.str "no"])] = some (.ret (oL [.str "no"]), [.fz (.tup [.str "no"])]) := by kernel_rfl
theorem v_pieces_3 : fn_pieces_of [.fz (.tup [.str "note"])] = some (.ret (oL [.str "note"]), [.fz (.tup [.str "note"])]) := by kernel_rfl
theorem v_pieces_of : ∀ s : Sy, small s = true → fn_pieces_of [.fz s.d] = some (.ret (oL ((pcs s).map It.d)), [.fz s.d])
  | .yes, _ => v_pieces_1
  | .no, _ => v_pieces_2
  | .note, _ => v_pieces_3
  | .is i j, h => v_pieces_is (of_decide_eq_true h)
  | .put i j, h => v_pieces_put (of_decide_eq_true h)
  | .thn a b, _ => v_pieces_thn a.d b.d
  | .eit a b, _ => v_pieces_eit a.d b.d
  | .aga a, _ => v_pieces_aga a.d
  | .nt a, _ => v_pieces_nt a.d
/-- how often something is taken off -/
def pp : Sy → Nat
  | .thn a b => pp a + pp b + 4
  | .eit a b => pp a + pp b + 4
  | .aga a => pp a + 4
  | .nt a => pp a + 4
  | _ => 2
def ppI : It → Nat
  | .w _ => 1
  | .p s => pp s
def ppL : List It → Nat
  | [] => 0
  | a :: l => ppI a + ppL l
theorem ppL_app : ∀ (l m : List It), ppL (l ++ m) = ppL l + ppL m
  | [], m => by simp [ppL]
  | a :: l, m => by simp only [List.cons_append, ppL, ppL_app l m]; omega
theorem ppL_rev : ∀ l : List It, ppL l.reverse = ppL l
  | [] => rfl
  | a :: l => by rw [List.reverse_cons, ppL_app, ppL_rev l]; simp only [ppL]; omega
theorem pp_pcs (s : Sy) : ppL (pcs s) + 1 = pp s := by
  cases s <;> simp [pcs, ppL, ppI, pp] <;> omega
theorem pp_sz : ∀ s : Sy, pp s ≤ 4 * sz s
  | .yes => by simp [pp, sz]
  | .no => by simp [pp, sz]
  | .note => by simp [pp, sz]
  | .is _ _ => by simp [pp, sz]
  | .put _ _ => by simp [pp, sz]
  | .thn a b => by have := pp_sz a; have := pp_sz b; simp only [pp, sz]; omega
  | .eit a b => by have := pp_sz a; have := pp_sz b; simp only [pp, sz]; omega
  | .aga a => by have := pp_sz a; simp only [pp, sz]; omega
  | .nt a => by have := pp_sz a; simp only [pp, sz]; omega
theorem ppI_pos (a : It) : 1 ≤ ppI a := by
  cases a with
  | w x => exact Nat.le_refl _
  | p s => have := pp_pcs s; simp only [ppI]; omega
theorem len_ppL : ∀ l : List It, l.length ≤ ppL l
  | [] => Nat.le_refl _
  | a :: l => by have := len_ppL l; have := ppI_pos a; simp only [List.length_cons, ppL]; omega
theorem testS_val {Z : Zs} (l : List D) (a0 a1 a2 a4 : T) : Wt_shown_saying_1 Z [a0, a1, a2, .ls (l.map .fz), a4] = some (.inl (!l.isEmpty), [a0, a1, a2, .ls (l.map .fz), a4]) := by
  have h : (T.ls (l.map .fz)).frz = .fz (.lst l) := by unfold T.frz; rw [fzs_data]
  simp only [Wt_shown_saying_1, xbLift, dScalT, List.map_cons, List.map_nil, h]
  simp [dTru, dSh, dVar, share, T.data, truth]
def goodI : It → Prop
  | .w _ => True
  | .p s => small s = true
theorem turnW_ev {Z : Zs} {a0 a1 a4 : T} {P : List Str} {V0 : List It} {x : Str} (hp : P.length < 900000) : W_shown_saying_1 Z [a0, a1, .ls ((P.map D.str).map .fz), .ls (((V0 ++ [It.w x]).map It.d).map .fz), a4] = some (.nx [a0, a1, .ls (((P ++ [x]).map D.str).map .fz), .ls ((V0.map It.d).map .fz), .fz (.str x)]) := by
  have c1 : P.length < 1000000 := by omega
  unfold W_shown_saying_1
  rw [seq_nx (r1 := [a0, a1, .ls ((P.map D.str).map .fz), .ls ((V0.map It.d).map .fz), .fz (.str x)]) (by
    simp [dAsg, xLift, dPop, resW, mv, share, gdName, It.d])]
  apply EV.ifT
  · walk_at "ev"
  · rfl
  · simp [fnD, dRet, xLift, dBool, dAnd, dOr, dNot, dBl, dSh, dIsi, dVar, share, T.data, D.isi, D.bool, retW, outP, keepP, dSeq, dIf, xbLift, dC, dOp, dWith, fdCons, fdNil, D.items, Rs.w, dChain, gLe, gLt, gGt, gGe, gRI0, gRI, gAdd, gSubI, dAsg, mv, gdName, dDrop, dCallX, dCall, daCons, daNil, pars, back, putBack, resW, dIfE, dNext, dRaise, dItemsT, dItemsL, dFor, dLift, W.tm, dTru, truth, isFz, dAug, gMul1, dScal, dScalT, T.frz, D.scal, dUn, gNeg, gTupD, gLstD, xNot, xBl, gIx, dSl, gSlT, pAt, pNo, dMv, gInt, dInR, dAppend, isLs, c1]
theorem sy_tup (s : Sy) : ∃ l, s.d = .tup l := by cases s <;> exact ⟨_, rfl⟩
theorem turnP_ev {Z : Zs} {a0 a1 a4 : T} {P : List Str} {V0 : List It} {s : Sy} (hg : small s = true) (hv : V0.length < 900000) : W_shown_saying_1 Z [a0, a1, .ls ((P.map D.str).map .fz), .ls (((V0 ++ [It.p s]).map It.d).map .fz), a4] = some (.nx [a0, a1, .ls ((P.map D.str).map .fz), .ls (((V0 ++ (pcs s).reverse).map It.d).map .fz), .fz s.d]) := by
  have hi := v_pieces_of s hg
  have hk : (pcs s).length ≤ 5 := by cases s <;> simp [pcs]
  have c2 : V0.length + (pcs s).length ≤ 1000000 := by omega
  obtain ⟨l, el⟩ := sy_tup s
  unfold W_shown_saying_1
  rw [seq_nx (r1 := [a0, a1, .ls ((P.map D.str).map .fz), .ls ((V0.map It.d).map .fz), .fz s.d]) (by
    simp [dAsg, xLift, dPop, resW, mv, share, gdName, It.d])]
  rw [el] at hi ⊢
  apply EV.ifF
  · walk_at "ev"
  · rfl
  · have hd : (oL ((pcs s).map It.d)).data = some (.lst ((pcs s).map It.d)) := fzs_data _
    have hd2 : Option.map D.lst (dataL (List.map (T.fz ∘ It.d) (pcs s))) = some (.lst ((pcs s).map It.d)) := by
      rw [← List.map_map]; exact hd
    simp [fnD, dRet, xLift, dBool, dAnd, dOr, dNot, dBl, dSh, dIsi, dVar, share, T.data, D.isi, D.bool, retW, outP, keepP, dSeq, dIf, xbLift, dC, dOp, dWith, fdCons, fdNil, D.items, Rs.w, dChain, gLe, gLt, gGt, gGe, gRI0, gRI, gAdd, gSubI, dAsg, mv, gdName, dDrop, dCallX, dCall, daCons, daNil, pars, back, putBack, resW, dIfE, dNext, dRaise, dItemsT, dItemsL, dFor, dLift, W.tm, dTru, truth, isFz, dAug, gMul1, dScal, dScalT, T.frz, D.scal, dUn, gNeg, gTupD, gLstD, xNot, xBl, gIx, dSl, gSlT, pAt, pNo, dMv, gInt, dInR, dExtendL, isLs, hi, gRevL, c2, hd2, List.map_reverse]
theorem wlS {Z : Zs} (a0 a1 : T) : ∀ (m : Nat) (V0 : List It) (P : List Str) (a4 : T), ppL V0 < m → P.length + ppL V0 < 800000 → (∀ v ∈ V0, goodI v) → ∃ b4, whileD (Wt_shown_saying_1 Z) (W_shown_saying_1 Z) m [a0, a1, .ls ((P.map D.str).map .fz), .ls ((V0.map It.d).map .fz), a4] = some (.nx [a0, a1, .ls (((P ++ V0.reverse.flatMap flI).map D.str).map .fz), .ls [], b4]) := by
  intro m
  induction m with
  | zero => intro V0 P a4 h; omega
  | succ m ih =>
    intro V0 P a4 hm hb hg
    rcases List.eq_nil_or_concat V0 with rfl | ⟨V', a, rfl⟩
    · refine ⟨a4, ?_⟩
      have := testS_val (Z := Z) [] a0 a1 (.ls ((P.map D.str).map .fz)) a4
      simp only [List.map_nil] at this
      simp only [List.map_nil, List.reverse_nil, List.flatMap_nil, List.append_nil]
      exact EV.whF this
    · rw [List.concat_eq_append] at *
      rw [ppL_app] at hm hb
      simp only [ppL, Nat.add_zero] at hm hb
      have p1 := ppI_pos a
      have hvl := len_ppL V'
      have tv := testS_val (Z := Z) ((V' ++ [a]).map It.d) a0 a1 (.ls ((P.map D.str).map .fz)) a4
      have ne : (!((V' ++ [a]).map It.d).isEmpty) = true := by simp
      rw [ne] at tv
      have g' : ∀ v ∈ V', goodI v := fun v hv => hg v (List.mem_append_left _ hv)
      have ga := hg a (by simp)
      cases a with
      | w x =>
        have te := turnW_ev (Z := Z) (a0 := a0) (a1 := a1) (a4 := a4) (P := P) (V0 := V') (x := x) (by omega)
        simp only [ppI] at hm hb
        obtain ⟨b4, h⟩ := ih V' (P ++ [x]) (.fz (.str x)) (by omega) (by simp; omega) g'
        refine ⟨b4, EV.whT tv te ?_⟩
        rw [h]
        have e : P ++ [x] ++ V'.reverse.flatMap flI = P ++ (V' ++ [It.w x]).reverse.flatMap flI := by simp [flI]
        rw [e]
      | p s =>
        have te := turnP_ev (Z := Z) (a0 := a0) (a1 := a1) (a4 := a4) (P := P) (V0 := V') (s := s) ga (by omega)
        have hp := pp_pcs s
        simp only [ppI] at hm hb
        obtain ⟨b4, h⟩ := ih (V' ++ (pcs s).reverse) P (.fz s.d) (by rw [ppL_app, ppL_rev]; omega) (by rw [ppL_app, ppL_rev]; omega) (fun v hv => by
          rcases List.mem_append.mp hv with q | q
          · exact g' v q
          · rw [List.mem_reverse] at q
            revert ga
            clear te
            cases s <;> simp [pcs] at q <;> intro ga <;> simp only [goodI, small, Bool.and_eq_true] at ga <;> rcases q with rfl | rfl | rfl | rfl | rfl <;> first | trivial | exact ga | exact ga.1 | exact ga.2)
        refine ⟨b4, EV.whT tv te ?_⟩
        rw [h]
        have e : P ++ (V' ++ (pcs s).reverse).reverse.flatMap flI = P ++ (V' ++ [It.p s]).reverse.flatMap flI := by
          simp [flI, flat_pcs s]
        rw [e]
end KQ
set_option Elab.async false
set_option linter.all false
set_option maxRecDepth 100000
set_option maxHeartbeats 8000000
namespace KQ
open PySem PySem.Spec PyProof.Rows L2 Q
theorem lf_len {m : Str} (hm : m = "=" ∨ m = ":") {i j : Int} (h : 0 ≤ i ∧ i < 3 ∧ 0 ≤ j ∧ j < 4) : (lf m i j).length ≤ 10 := by
  have hi : i = 0 ∨ i = 1 ∨ i = 2 := by omega
  have hj : j = 0 ∨ j = 1 ∨ j = 2 ∨ j = 3 := by omega
  rcases hm with rfl | rfl <;> rcases hi with rfl | rfl | rfl <;> rcases hj with rfl | rfl | rfl | rfl <;> decide +kernel
theorem w_len : ∀ x ∈ (["yes", "no", "note", "(", ")", ";", "|", "not", "again"] : List Str), x.length ≤ 10 := by decide +kernel
theorem flat_len : ∀ s : Sy, small s = true → (∀ x ∈ flat s, x.length ≤ 10) ∧ (flat s).length ≤ pp s
  | .yes, _ => ⟨by simpa [flat] using w_len _ (by simp), by simp [flat, pp]⟩
  | .no, _ => ⟨by simpa [flat] using w_len "no" (by simp), by simp [flat, pp]⟩
  | .note, _ => ⟨by simpa [flat] using w_len "note" (by simp), by simp [flat, pp]⟩
  | .is i j, h => ⟨by simpa [flat] using lf_len (Or.inl rfl) (of_decide_eq_true h), by simp [flat, pp]⟩
  | .put i j, h => ⟨by simpa [flat] using lf_len (Or.inr rfl) (of_decide_eq_true h), by simp [flat, pp]⟩
  | .thn a b, h => by
    simp only [small, Bool.and_eq_true] at h
    obtain ⟨a1, a2⟩ := flat_len a h.1
    obtain ⟨b1, b2⟩ := flat_len b h.2
    refine ⟨fun x hx => ?_, by simp only [flat, pp, List.length_cons, List.length_append, List.length_nil]; omega⟩
    simp only [flat, List.mem_cons, List.mem_append, List.not_mem_nil, or_false] at hx
    rcases hx with rfl | hx | rfl | hx | rfl
    · exact w_len _ (by simp)
    · exact a1 x hx
    · exact w_len _ (by simp)
    · exact b1 x hx
    · exact w_len _ (by simp)
  | .eit a b, h => by
    simp only [small, Bool.and_eq_true] at h
    obtain ⟨a1, a2⟩ := flat_len a h.1
    obtain ⟨b1, b2⟩ := flat_len b h.2
    refine ⟨fun x hx => ?_, by simp only [flat, pp, List.length_cons, List.length_append, List.length_nil]; omega⟩
    simp only [flat, List.mem_cons, List.mem_append, List.not_mem_nil, or_false] at hx
    rcases hx with rfl | hx | rfl | hx | rfl
    · exact w_len _ (by simp)
    · exact a1 x hx
    · exact w_len _ (by simp)
    · exact b1 x hx
    · exact w_len _ (by simp)
  | .aga a, h => by
    obtain ⟨a1, a2⟩ := flat_len a h
    refine ⟨fun x hx => ?_, by simp only [flat, pp, List.length_cons, List.length_append, List.length_nil]; omega⟩
    simp only [flat, List.mem_cons, List.mem_append, List.not_mem_nil, or_false] at hx
    rcases hx with rfl | rfl | hx | rfl
    · exact w_len _ (by simp)
    · exact w_len _ (by simp)
    · exact a1 x hx
    · exact w_len _ (by simp)
  | .nt a, h => by
    obtain ⟨a1, a2⟩ := flat_len a h
    refine ⟨fun x hx => ?_, by simp only [flat, pp, List.length_cons, List.length_append, List.length_nil]; omega⟩
    simp only [flat, List.mem_cons, List.mem_append, List.not_mem_nil, or_false] at hx
    rcases hx with rfl | rfl | hx | rfl
    · exact w_len _ (by simp)
    · exact w_len _ (by simp)
    · exact a1 x hx
    · exact w_len _ (by simp)
theorem strsD_map : ∀ l : List Str, strsD (l.map D.str) = some l
  | [] => rfl
  | x :: l => by simp [strsD, strsD_map l]
theorem sum_le : ∀ (l : List Str) (k : Nat), (∀ x ∈ l, x.length ≤ k) → (l.map (·.length)).sum ≤ k * l.length
  | [], k, _ => by simp
  | x :: l, k, h => by
    have := sum_le l k fun y hy => h y (by simp [hy])
    have := h x (by simp)
    simp only [List.map_cons, List.sum_cons, List.length_cons, Nat.mul_add, Nat.mul_one]
    omega
/-- the text of a saying -/
def text (s : Sy) : Str := Txt.join "" (flat s)
theorem join_ev {s : Sy} (hg : small s = true) (hz : sz s ≤ 2800) : gJoin [.str "", .lst ((flat s).map D.str)] = some (.val (.str (text s))) := by
  obtain ⟨h1, h2⟩ := flat_len s hg
  have h3 := pp_sz s
  have h4 := sum_le _ 10 h1
  have l0 : ("" : Str).length = 0 := by decide +kernel
  show (strsD ((flat s).map D.str)).bind _ = _
  rw [strsD_map]
  show (if ((flat s).map (·.length)).sum + (flat s).length * ("" : Str).length ≤ 16777216 then some (Rs.val (.str (Txt.join "" (flat s)))) else none) = _
  rw [l0, if_pos (by omega)]; rfl
theorem v_shown {Z : Zs} {sh : List D} {s : Sy} (hs : GSh sh) (h : okS sh s = true) (hn : notes s ≤ 5) (hz : sz s ≤ 900) : fn_shown_saying Z [.fz (.tup sh), .fz s.d] = some (.ret (.fz (.str (text s))), [.fz (.tup sh), .fz s.d]) := by
  have ck := v_check_saying (Z := Z) hs h hn (by omega)
  have hg := small_S hs s h
  have hp := pp_sz s
  obtain ⟨b4, hw⟩ := wlS (Z := Z) (.fz (.tup sh)) (.fz s.d) 4000 [.p s] [] .un (by simp only [ppL, ppI]; omega) (by simp only [ppL, ppI, List.length_nil]; omega) (fun v hv => by
    simp only [List.mem_cons, List.not_mem_nil, or_false] at hv
    subst hv
    exact hg)
  have hj := join_ev hg (show sz s ≤ 2800 by omega)
  have e : ([] ++ [It.p s].reverse.flatMap flI) = flat s := by simp [flI]
  rw [e] at hw
  have hw' : dWhile fuel_shown_saying_1 (Wt_shown_saying_1 Z) (W_shown_saying_1 Z) [.fz (.tup sh), .fz s.d, .ls [], .ls [.fz s.d], .un] = some (.nx [.fz (.tup sh), .fz s.d, .ls (((flat s).map D.str).map .fz), .ls [], b4]) := hw
  have hd : (T.ls (((flat s).map D.str).map T.fz)).data = some (.lst ((flat s).map D.str)) := fzs_data _
  generalize (flat s).map D.str = L at *
  generalize text s = tx at *
  generalize D.tup sh = SH at *
  generalize s.d = sd at *
  apply fe_shown_saying
  · unfold b_shown_saying
    walk_at "st"
    walk_at "st"
    walk_at "st"
    apply EV.seq
    · exact hw'
    · apply EV.ret (r1 := [.fz SH, .fz sd, .fz (.lst L), .ls [], b4]) (w := .sh (.str tx))
      apply EV.xl
      show ((dSh (dC (.str ""))) _).bind _ = _
      have e2 : (dSh (dVar 2)) [.fz SH, .fz sd, .ls (L.map .fz), .ls [], b4] = some (.lst L, [.fz SH, .fz sd, .fz (.lst L), .ls [], b4]) := by
        simp [dSh, dVar, share, hd]
      show ((dSh (dVar 2)) [.fz SH, .fz sd, .ls (L.map .fz), .ls [], b4]).bind _ = _
      rw [e2]
      show (gJoin [.str "", .lst L]).bind _ = _
      rw [hj]; rfl
  walk_at "fin"
end KQ
set_option Elab.async false
set_option linter.all false
set_option maxRecDepth 100000
set_option maxHeartbeats 8000000
namespace KQ
open PySem PySem.Spec PyProof.Rows L2 Q
/-! ### the signs of a text -/
open SX (S)
def mk1 (m : Nat) (i j : Int) : List Nat := [97 + i.toNat, m, 48 + j.toNat]
def ct : Sy → List Nat
  | .yes => [121, 101, 115]
  | .no => [110, 111]
  | .note => [110, 111, 116, 101]
  | .is i j => mk1 61 i j
  | .put i j => mk1 58 i j
  | .thn a b => 40 :: (ct a ++ 59 :: (ct b ++ [41]))
  | .eit a b => 40 :: (ct a ++ 124 :: (ct b ++ [41]))
  | .aga a => [97, 103, 97, 105, 110] ++ 40 :: (ct a ++ [41])
  | .nt a => [110, 111, 116] ++ 40 :: (ct a ++ [41])
/-- the words -/
def wds : Sy → List (List Nat)
  | .thn a b => [40] :: (wds a ++ [59] :: (wds b ++ [[41]]))
  | .eit a b => [40] :: (wds a ++ [124] :: (wds b ++ [[41]]))
  | .aga a => [97, 103, 97, 105, 110, 40] :: (wds a ++ [[41]])
  | .nt a => [110, 111, 116, 40] :: (wds a ++ [[41]])
  | s => [ct s]
theorem lf_S {m : Str} {c : Nat} (hm : (m = "=" ∧ c = 61) ∨ (m = ":" ∧ c = 58)) {i j : Int} (h : 0 ≤ i ∧ i < 3 ∧ 0 ≤ j ∧ j < 4) : lf m i j = S (mk1 c i j) := by
  have hi : i = 0 ∨ i = 1 ∨ i = 2 := by omega
  have hj : j = 0 ∨ j = 1 ∨ j = 2 ∨ j = 3 := by omega
  rcases hm with ⟨rfl, rfl⟩ | ⟨rfl, rfl⟩ <;> rcases hi with rfl | rfl | rfl <;> rcases hj with rfl | rfl | rfl | rfl <;> decide +kernel
theorem lit9 : ("yes" : Str) = S [121, 101, 115] ∧ ("no" : Str) = S [110, 111] ∧ ("note" : Str) = S [110, 111, 116, 101] ∧ ("(" : Str) = S [40] ∧ (")" : Str) = S [41] ∧ (";" : Str) = S [59] ∧ ("|" : Str) = S [124] ∧ ("again" : Str) = S [97, 103, 97, 105, 110] ∧ ("not" : Str) = S [110, 111, 116] ∧ ("" : Str) = S [] ∧ (" " : Str) = S [32] ∧ ("( " : Str) = S [40, 32] ∧ ("again(" : Str) = S [97, 103, 97, 105, 110, 40] ∧ ("not(" : Str) = S [110, 111, 116, 40] := by decide +kernel
theorem joinL_nil : ∀ l : List (List Nat), TL.joinL [] l = l.flatten
  | [] => rfl
  | [x] => by simp [TL.joinL]
  | x :: y :: l => by
    have := joinL_nil (y :: l)
    simp only [TL.joinL, List.nil_append, List.flatten_cons] at this ⊢
    rw [this]
/-- the pieces' signs -/
def fc : Sy → List (List Nat)
  | .thn a b => [40] :: (fc a ++ [59] :: (fc b ++ [[41]]))
  | .eit a b => [40] :: (fc a ++ [124] :: (fc b ++ [[41]]))
  | .aga a => [97, 103, 97, 105, 110] :: [40] :: (fc a ++ [[41]])
  | .nt a => [110, 111, 116] :: [40] :: (fc a ++ [[41]])
  | s => [ct s]
theorem flat_fc : ∀ s : Sy, small s = true → flat s = (fc s).map S
  | .yes, _ => by simp [flat, fc, ct, lit9.1]
  | .no, _ => by simp [flat, fc, ct, lit9.2.1]
  | .note, _ => by simp [flat, fc, ct, lit9.2.2.1]
  | .is i j, h => by simp [flat, fc, ct, lf_S (Or.inl ⟨rfl, rfl⟩) (of_decide_eq_true h)]
  | .put i j, h => by simp [flat, fc, ct, lf_S (Or.inr ⟨rfl, rfl⟩) (of_decide_eq_true h)]
  | .thn a b, h => by
    simp only [small, Bool.and_eq_true] at h
    obtain ⟨_, _, _, l4, l5, l6, l7, l8, l9, _⟩ := lit9
    simp only [flat, fc, flat_fc a h.1, flat_fc b h.2, l4, l5, l6, List.map_cons, List.map_append, List.map_nil]
  | .eit a b, h => by
    simp only [small, Bool.and_eq_true] at h
    obtain ⟨_, _, _, l4, l5, l6, l7, l8, l9, _⟩ := lit9
    simp only [flat, fc, flat_fc a h.1, flat_fc b h.2, l4, l5, l7, List.map_cons, List.map_append, List.map_nil]
  | .aga a, h => by
    obtain ⟨_, _, _, l4, l5, l6, l7, l8, l9, _⟩ := lit9
    simp only [flat, fc, flat_fc a h, l4, l5, l8, List.map_cons, List.map_append, List.map_nil]
  | .nt a, h => by
    obtain ⟨_, _, _, l4, l5, l6, l7, l8, l9, _⟩ := lit9
    simp only [flat, fc, flat_fc a h, l4, l5, l9, List.map_cons, List.map_append, List.map_nil]
theorem fc_ct : ∀ s : Sy, (fc s).flatten = ct s
  | .thn a b => by simp [fc, ct, fc_ct a, fc_ct b]
  | .eit a b => by simp [fc, ct, fc_ct a, fc_ct b]
  | .aga a => by simp [fc, ct, fc_ct a]
  | .nt a => by simp [fc, ct, fc_ct a]
  | .yes => by simp [fc]
  | .no => by simp [fc]
  | .note => by simp [fc]
  | .is _ _ => by simp [fc]
  | .put _ _ => by simp [fc]
theorem text_S {s : Sy} (h : small s = true) : text s = S (ct s) := by
  unfold text
  rw [flat_fc s h, lit9.2.2.2.2.2.2.2.2.2.1, SX.join_S, joinL_nil, fc_ct]
/-! replace one sign -/
def rp (c : Nat) (z : List Nat) (d : Nat) : List Nat := if d = c then z else [d]
theorem repl1 (c : Nat) (z : List Nat) : ∀ l : List Nat, StrLaws.replL [c] z l = l.flatMap (rp c z)
  | [] => by rw [StrLaws.replL_nil]; rfl
  | d :: l => by
    by_cases e : d = c
    · subst e
      rw [StrLaws.replL_hit (by simp) (by simp), List.flatMap_cons]
      show z ++ StrLaws.replL [d] z l = _
      rw [repl1 d z l]; simp only [rp, if_true]
    · rw [StrLaws.replL_miss (by simpa using e), List.flatMap_cons, repl1 c z l]
      simp [rp, e]
theorem repl_S (a : List Nat) (c : Nat) (z : List Nat) : Txt.replace (S a) (S [c]) (S z) = S (a.flatMap (rp c z)) := by
  refine TL.ext_tl ?_
  have h := StrLaws.replace_list (x := S a) (y := S [c]) (z := S z) (by rw [SX.S_len]; simp)
  show (Txt.replace (S a) (S [c]) (S z)).cps.toList = _
  rw [h]
  show StrLaws.replL [c] z a = _
  rw [repl1]
def g (d : Nat) : List Nat := if d = 40 then [40, 32] else if d = 41 then [32, 41, 32] else if d = 59 then [32, 59, 32] else if d = 124 then [32, 124, 32] else [d]
theorem rp4 (d : Nat) : (((rp 40 [40, 32] d).flatMap (rp 41 [32, 41, 32])).flatMap (rp 59 [32, 59, 32])).flatMap (rp 124 [32, 124, 32]) = g d := by
  unfold g
  by_cases h1 : d = 40
  · subst h1; decide
  by_cases h2 : d = 41
  · subst h2; decide
  by_cases h3 : d = 59
  · subst h3; decide
  by_cases h4 : d = 124
  · subst h4; decide
  simp [rp, h1, h2, h3, h4]
theorem fm_assoc (l : List Nat) (f h : Nat → List Nat) : (l.flatMap f).flatMap h = l.flatMap fun d => (f d).flatMap h := by
  induction l with
  | nil => rfl
  | cons a l ih => simp [List.flatMap_cons, List.flatMap_append, ih]
theorem fm_congr {f h : Nat → List Nat} (e : ∀ d, f d = h d) (l : List Nat) : l.flatMap f = l.flatMap h := by rw [show f = h from funext e]
theorem apart_S (a : List Nat) : sparse " " " " [")", ";", "|"] (Txt.replace (S a) "(" "( ") = S (a.flatMap g) := by
  have c1 : ((" " : Str) ++ ")") ++ " " = S [32, 41, 32] := by decide +kernel
  have c2 : ((" " : Str) ++ ";") ++ " " = S [32, 59, 32] := by decide +kernel
  have c3 : ((" " : Str) ++ "|") ++ " " = S [32, 124, 32] := by decide +kernel
  obtain ⟨_, _, _, l4, l5, l6, l7, l8, l9, _, _, l12, _⟩ := lit9
  show Txt.replace (Txt.replace (Txt.replace (Txt.replace (S a) "(" "( ") ")" ((" " : Str) ++ ")" ++ " ")) ";" ((" " : Str) ++ ";" ++ " ")) "|" ((" " : Str) ++ "|" ++ " ") = _
  rw [c1, c2, c3, l4, l12, l5, l6, l7, repl_S, repl_S, repl_S, repl_S, fm_assoc a, fm_assoc a, fm_assoc a]
  congr 1
  exact fm_congr rp4 a
/-! split at blanks, what is empty left out -/
def wf (l : List Nat) : List (List Nat) := (TL.spl [32] 0 [] l).filter fun x => !x.isEmpty
theorem pre32 (c : Nat) (r : List Nat) : TL.pre [32] (c :: r) = decide (c = 32) := by
  by_cases h : c = 32
  · subst h; simp [TL.pre]
  · rw [TL.pre_of_head [] r h]; simp [h]
theorem spl_app : ∀ (p q acc : List Nat), TL.spl [32] 0 acc (p ++ 32 :: q) = TL.spl [32] 0 acc p ++ TL.spl [32] 0 [] q
  | [], q, acc => by
    rw [List.nil_append, TL.spl_hit (by rw [pre32]; rfl), TL.spl_nil]; rfl
  | c :: p, q, acc => by
    rw [List.cons_append]
    by_cases h : c = 32
    · subst h
      rw [TL.spl_hit (by rw [pre32]; rfl), TL.spl_hit (by rw [pre32]; rfl)]
      show acc :: TL.spl [32] 0 [] (p ++ 32 :: q) = acc :: TL.spl [32] 0 [] p ++ _
      rw [spl_app p q []]; rfl
    · rw [TL.spl_miss (by rw [pre32]; simpa using h), TL.spl_miss (by rw [pre32]; simpa using h), spl_app p q _]
theorem wf_app (p q : List Nat) : wf (p ++ 32 :: q) = wf p ++ wf q := by
  unfold wf; rw [spl_app, List.filter_append]
theorem wf_word {p : List Nat} (h : 32 ∉ p) (n : p ≠ []) : wf p = [p] := by
  unfold wf
  rw [TL.spl_last1 h, List.nil_append]
  cases p with
  | nil => exact absurd rfl n
  | cons _ _ => rfl
theorem wf_nil : wf [] = [] := by decide
theorem g_leaf : ∀ {l : List Nat}, (∀ d ∈ l, d ≠ 40 ∧ d ≠ 41 ∧ d ≠ 59 ∧ d ≠ 124) → l.flatMap g = l
  | [], _ => rfl
  | d :: l, h => by
    obtain ⟨a, b, c, e⟩ := h d (by simp)
    rw [List.flatMap_cons, g_leaf fun x hx => h x (by simp [hx])]
    simp [g, a, b, c, e]
def plainW (l : List Nat) : Bool := l.all fun d => d != 40 && d != 41 && d != 59 && d != 124 && d != 32
theorem leaf_wf {l : List Nat} (h : plainW l = true) (n : l ≠ []) : wf (l.flatMap g) = [l] := by
  simp only [plainW, List.all_eq_true, Bool.and_eq_true, bne_iff_ne] at h
  rw [g_leaf fun d hd => ⟨(h d hd).1.1.1.1, (h d hd).1.1.1.2, (h d hd).1.1.2, (h d hd).1.2⟩]
  exact wf_word (fun z => (h 32 z).2 rfl) n
theorem mk1_plain {m : Nat} (hm : m = 61 ∨ m = 58) {i j : Int} (h : 0 ≤ i ∧ i < 3 ∧ 0 ≤ j ∧ j < 4) : plainW (mk1 m i j) = true := by
  have hi : i = 0 ∨ i = 1 ∨ i = 2 := by omega
  have hj : j = 0 ∨ j = 1 ∨ j = 2 ∨ j = 3 := by omega
  rcases hm with rfl | rfl <;> rcases hi with rfl | rfl | rfl <;> rcases hj with rfl | rfl | rfl | rfl <;> decide
theorem g4 : g 40 = [40, 32] ∧ g 41 = [32, 41, 32] ∧ g 59 = [32, 59, 32] ∧ g 124 = [32, 124, 32] := by decide
theorem gl : g 97 = [97] ∧ g 103 = [103] ∧ g 105 = [105] ∧ g 110 = [110] ∧ g 111 = [111] ∧ g 116 = [116] := by decide
theorem wf_ct : ∀ s : Sy, small s = true → wf ((ct s).flatMap g) = wds s
  | .yes, _ => leaf_wf (by decide) (by simp [ct])
  | .no, _ => leaf_wf (by decide) (by simp [ct])
  | .note, _ => leaf_wf (by decide) (by simp [ct])
  | .is i j, h => leaf_wf (mk1_plain (Or.inl rfl) (of_decide_eq_true h)) (by simp [ct, mk1])
  | .put i j, h => leaf_wf (mk1_plain (Or.inr rfl) (of_decide_eq_true h)) (by simp [ct, mk1])
  | .thn a b, h => by
    simp only [small, Bool.and_eq_true] at h
    have e : (ct (.thn a b)).flatMap g = [40] ++ 32 :: ((ct a).flatMap g ++ 32 :: ([59] ++ 32 :: ((ct b).flatMap g ++ 32 :: ([41] ++ 32 :: [])))) := by
      simp [ct, List.flatMap_cons, List.flatMap_append, g4]
    rw [e, wf_app, wf_app, wf_app, wf_app, wf_app, wf_ct a h.1, wf_ct b h.2, wf_word (by simp) (by simp), wf_word (by simp) (by simp), wf_word (by simp) (by simp), wf_nil]
    simp [wds]
  | .eit a b, h => by
    simp only [small, Bool.and_eq_true] at h
    have e : (ct (.eit a b)).flatMap g = [40] ++ 32 :: ((ct a).flatMap g ++ 32 :: ([124] ++ 32 :: ((ct b).flatMap g ++ 32 :: ([41] ++ 32 :: [])))) := by
      simp [ct, List.flatMap_cons, List.flatMap_append, g4]
    rw [e, wf_app, wf_app, wf_app, wf_app, wf_app, wf_ct a h.1, wf_ct b h.2, wf_word (by simp) (by simp), wf_word (by simp) (by simp), wf_word (by simp) (by simp), wf_nil]
    simp [wds]
  | .aga a, h => by
    have e : (ct (.aga a)).flatMap g = [97, 103, 97, 105, 110, 40] ++ 32 :: ((ct a).flatMap g ++ 32 :: ([41] ++ 32 :: [])) := by
      simp only [ct, List.flatMap_append, List.flatMap_cons, g4.1, g4.2.1, List.flatMap_nil]
      simp [gl]
    rw [e, wf_app, wf_app, wf_app, wf_ct a h, wf_word (by decide) (by simp), wf_word (by simp) (by simp), wf_nil]
    simp [wds]
  | .nt a, h => by
    have e : (ct (.nt a)).flatMap g = [110, 111, 116, 40] ++ 32 :: ((ct a).flatMap g ++ 32 :: ([41] ++ 32 :: [])) := by
      simp only [ct, List.flatMap_append, List.flatMap_cons, g4.1, g4.2.1, List.flatMap_nil]
      simp [gl]
    rw [e, wf_app, wf_app, wf_app, wf_ct a h, wf_word (by decide) (by simp), wf_word (by simp) (by simp), wf_nil]
    simp [wds]
/-- no blank in it -/
theorem no32 : ∀ s : Sy, small s = true → 32 ∉ ct s
  | .yes, _ => by decide
  | .no, _ => by decide
  | .note, _ => by decide
  | .is i j, h => fun z => by
    have := mk1_plain (Or.inl rfl) (of_decide_eq_true h)
    simp only [plainW, List.all_eq_true, Bool.and_eq_true, bne_iff_ne] at this
    exact (this 32 z).2 rfl
  | .put i j, h => fun z => by
    have := mk1_plain (Or.inr rfl) (of_decide_eq_true h)
    simp only [plainW, List.all_eq_true, Bool.and_eq_true, bne_iff_ne] at this
    exact (this 32 z).2 rfl
  | .thn a b, h => by
    simp only [small, Bool.and_eq_true] at h
    have := no32 a h.1; have := no32 b h.2; simp_all [ct]
  | .eit a b, h => by
    simp only [small, Bool.and_eq_true] at h
    have := no32 a h.1; have := no32 b h.2; simp_all [ct]
  | .aga a, h => by have := no32 a h; simp_all [ct]
  | .nt a, h => by have := no32 a h; simp_all [ct]
theorem len_ct : ∀ s : Sy, (ct s).length ≤ 8 * sz s
  | .yes => by simp [ct, sz]
  | .no => by simp [ct, sz]
  | .note => by simp [ct, sz]
  | .is _ _ => by simp [ct, sz, mk1]
  | .put _ _ => by simp [ct, sz, mk1]
  | .thn a b => by have := len_ct a; have := len_ct b; simp only [ct, sz, List.length_cons, List.length_append, List.length_nil]; omega
  | .eit a b => by have := len_ct a; have := len_ct b; simp only [ct, sz, List.length_cons, List.length_append, List.length_nil]; omega
  | .aga a => by have := len_ct a; simp only [ct, sz, List.length_cons, List.length_append, List.length_nil]; omega
  | .nt a => by have := len_ct a; simp only [ct, sz, List.length_cons, List.length_append, List.length_nil]; omega
theorem split_wf (a : List Nat) : (Txt.split (S a) " ").filter (fun x : Str => decide (x ≠ "")) = (wf a).map S := by
  rw [lit9.2.2.2.2.2.2.2.2.2.2.1, SX.split_S (by simp) (by decide)]
  unfold wf
  generalize TL.spl [32] 0 [] a = L
  induction L with
  | nil => rfl
  | cons x L ih =>
    rw [List.map_cons, List.filter_cons, List.filter_cons, ih]
    cases x with
    | nil => rw [if_neg (by decide +kernel), if_neg (by simp)]
    | cons c r =>
      have : S (c :: r) ≠ "" := fun z => by
        rw [lit9.2.2.2.2.2.2.2.2.2.1] at z
        exact absurd (SX.S_inj z) (by simp)
      rw [if_pos (by simpa using this), if_pos (by simp)]; rfl
end KQ
set_option Elab.async false
set_option linter.all false
set_option maxRecDepth 100000
set_option maxHeartbeats 8000000
namespace KQ
open PySem PySem.Spec PyProof.Rows L2 Q
open SX (S)
/-! ### words -/
theorem spl_len : ∀ (p acc x : List Nat), x ∈ TL.spl [32] 0 acc p → x.length ≤ acc.length + p.length
  | [], acc, x, h => by rw [TL.spl_nil] at h; simp at h; subst h; simp
  | c :: p, acc, x, h => by
    by_cases e : c = 32
    · subst e
      rw [TL.spl_hit (by rw [pre32]; rfl)] at h
      rcases List.mem_cons.mp h with rfl | h
      · simp
      · have := spl_len p [] x h
        simp only [List.length_nil, List.length_cons] at this ⊢; omega
    · rw [TL.spl_miss (by rw [pre32]; simpa using e)] at h
      have := spl_len p _ x h
      simp only [List.length_append, List.length_cons, List.length_nil] at this ⊢; omega
theorem spl_many : ∀ (p acc : List Nat), (TL.spl [32] 0 acc p).length ≤ p.length + 1
  | [], acc => by rw [TL.spl_nil]; simp
  | c :: p, acc => by
    by_cases e : c = 32
    · subst e
      rw [TL.spl_hit (by rw [pre32]; rfl)]
      have := spl_many p []
      simp only [List.length_cons] at this ⊢
      exact Nat.succ_le_succ this
    · rw [TL.spl_miss (by rw [pre32]; simpa using e)]
      have := spl_many p (acc ++ [c])
      simp only [List.length_cons]; omega
theorem g_len : ∀ l : List Nat, (l.flatMap g).length ≤ 3 * l.length
  | [] => by simp
  | d :: l => by
    have := g_len l
    have h : (g d).length ≤ 3 := by
      unfold g
      repeat' split
      all_goals simp
    simp only [List.flatMap_cons, List.length_append, List.length_cons]; omega
theorem tru_str {w : Str} (h : w.length ≤ 1000000) : truth (.str w) = some (decide (w ≠ "")) := by
  show (if w.length ≤ 1000000 then some ((w.length : Int) != 0) else none) = _
  rw [if_pos h]
  congr 1
  have e : w = "" ↔ w.length = 0 := by
    rw [TL.len0_tl]
    constructor
    · rintro rfl; decide +kernel
    · intro z; exact TL.ext_tl (by rw [z]; decide +kernel)
  by_cases z : w = ""
  · have := e.mp z
    have l0 : ("" : Str).length = 0 := by decide +kernel
    simp [z, l0]
  · have : w.length ≠ 0 := fun q => z (e.mpr q)
    simp [z]
    omega
theorem comp_w {Z : Zs} {a b c : T} : ∀ (l : List Str) (M : List D) (x : T), (∀ w ∈ l, w.length ≤ 100000) → M.length + l.length ≤ 900000 → ∃ x', compD (gdName 3) (ct_words_in_1 Z) (c_words_in_1 Z) [3] (l.map D.str) [a, b, c, x] (M.map .fz) = some ((M ++ (l.filter fun w : Str => decide (w ≠ "")).map D.str).map .fz, [a, b, c, x'])
  | [], M, x, _, _ => ⟨x, by simp [compD]⟩
  | w :: l, M, x, hw, hb => by
    simp only [List.length_cons] at hb
    have hw1 := hw w (by simp)
    have ht := tru_str (w := w) (by omega)
    have ml : M.length < 1000000 := by omega
    by_cases q : w = ""
    · obtain ⟨x', e⟩ := comp_w (Z := Z) (a := a) (b := b) (c := c) l M (.fz (.str w)) (fun v hv => hw v (by simp [hv])) (by omega)
      refine ⟨x', ?_⟩
      rw [decide_eq_false (by simpa using q)] at ht
      rw [List.map_cons, List.filter_cons, if_neg (by simpa using q)]
      apply EV.ccN
      · walk_at "gt"
      · apply EV.tru
        · exact EV.shV rfl
        · exact ht
      · rfl
      · exact e
    · obtain ⟨x', e⟩ := comp_w (Z := Z) (a := a) (b := b) (c := c) l (M ++ [.str w]) (.fz (.str w)) (fun v hv => hw v (by simp [hv])) (by simp; omega)
      refine ⟨x', ?_⟩
      rw [decide_eq_true q] at ht
      rw [List.map_cons, List.filter_cons, if_pos (by simpa using q)]
      apply EV.ccY
      · walk_at "gt"
      · apply EV.tru
        · exact EV.shV rfl
        · exact ht
      · rfl
      · walk_at "ev"
      · exact ml
      · rw [e]; simp
theorem v_words {Z : Zs} {s : Sy} (h : small s = true) (hz : sz s ≤ 100) : fn_words_in Z [.fz (.str (S (ct s)))] = some (.ret (oL ((wds s).map fun l => D.str (S l))), [.fz (.str (S (ct s)))]) := by
  have hl := len_ct s
  have hn := no32 s h
  have ha := apart_S (ct s)
  have hs := split_wf ((ct s).flatMap g)
  rw [wf_ct s h] at hs
  have gl' := g_len (ct s)
  have sl : (S (ct s)).length ≤ 1000 := by rw [SX.S_len]; omega
  have el : (S ((ct s).flatMap g)).length ≤ 900000 := by rw [SX.S_len]; omega
  have b0 : ((" " : Str).length == 0) = false := by decide +kernel
  have hg : gSplit [.str (S ((ct s).flatMap g)), .str " "] = some (.newL ((Txt.split (S ((ct s).flatMap g)) " ").map .str)) := if_pos ⟨b0, el⟩
  have hsp : Txt.split (S ((ct s).flatMap g)) " " = (TL.spl [32] 0 [] ((ct s).flatMap g)).map S := by
    rw [lit9.2.2.2.2.2.2.2.2.2.2.1, SX.split_S (by simp) (by decide)]
  have hw : ∀ w ∈ Txt.split (S ((ct s).flatMap g)) " ", w.length ≤ 100000 := fun w hw => by
    rw [hsp] at hw
    obtain ⟨x, hx, rfl⟩ := List.mem_map.mp hw
    have := spl_len _ _ _ hx
    rw [SX.S_len]; simp only [List.length_nil] at this; omega
  have hm : (Txt.split (S ((ct s).flatMap g)) " ").length ≤ 800000 := by
    rw [hsp, List.length_map]
    have := spl_many ((ct s).flatMap g) []
    omega
  obtain ⟨x', hc⟩ := comp_w (Z := Z) (a := .fz (.str (S (ct s)))) (b := .fz (.str (S ((ct s).flatMap g)))) (c := .fz (.str "|")) _ [] .un hw (by simp; omega)
  rw [hs, List.nil_append, List.map_nil] at hc
  have e1 : ((wds s).map S).map D.str = (wds s).map fun l => D.str (S l) := by rw [List.map_map]; rfl
  rw [e1] at hc
  generalize (wds s).map (fun l => D.str (S l)) = WL at hc ⊢
  have hd : (T.ls (((Txt.split (S ((ct s).flatMap g)) " ").map D.str).map T.fz)).data = some (.lst ((Txt.split (S ((ct s).flatMap g)) " ").map D.str)) := fzs_data _
  apply fe_words_in
  · unfold b_words_in
    show (if 32 ∈ ct s then _ else if (S (ct s)).length ≤ 1000 then _ else none) = _
    rw [if_neg hn, if_pos sl]
    show (dRet _) [.fz (.str (S (ct s))), .fz (.str (sparse " " " " [")", ";", "|"] (Txt.replace (S (ct s)) "(" "( "))), .fz (.str "|"), .un] = _
    rw [ha]
    apply EV.ret
    apply EV.xl
    apply EV.comp
    · apply EV.itL
      apply EV.shNT (t := .ls (((Txt.split (S ((ct s).flatMap g)) " ").map D.str).map T.fz)) (r1 := [.fz (.str (S (ct s))), .fz (.str (S ((ct s).flatMap g))), .fz (.str "|"), .un])
      · show ((gSplit [.str (S ((ct s).flatMap g)), .str " "]).bind fun z => some (z.w, _)) = _
        rw [hg]; rfl
      · exact hd
    · exact hc
    · rfl
  walk_at "fin"
end KQ
set_option Elab.async false
set_option linter.all false
set_option maxRecDepth 100000
set_option maxHeartbeats 8000000
namespace KQ
open PySem PySem.Spec PyProof.Rows L2 Q
open SX (S)
/-! ### the parts, one behind the other -/
def post : Sy → List D
  | .thn a b => post a ++ post b ++ [.tup [.str "then"]]
  | .eit a b => post a ++ post b ++ [.tup [.str "either"]]
  | .aga a => post a ++ [.tup [.str "again"]]
  | .nt a => post a ++ [.tup [.str "not"]]
  | s => [s.d]
theorem plain_is {Z : Zs} {i j : Int} (h : 0 ≤ i ∧ i < 3 ∧ 0 ≤ j ∧ j < 4) : fn_plain_part Z [.fz (.str (S (mk1 61 i j))), .fz (.bl false)] = some (.ret (.fz (.tup [.str "is", .int i, .int j])), [.fz (.str (S (mk1 61 i j))), .fz (.bl false)]) ∧ (tabSD t_OPENINGS (S (mk1 61 i j))).isSome = false := by
  have hi : i = 0 ∨ i = 1 ∨ i = 2 := by omega
  have hj : j = 0 ∨ j = 1 ∨ j = 2 ∨ j = 3 := by omega
  rcases hi with rfl | rfl | rfl <;> rcases hj with rfl | rfl | rfl | rfl <;> exact ⟨by kernel_rfl, by kernel_rfl⟩
theorem plain_put {Z : Zs} {i j : Int} (h : 0 ≤ i ∧ i < 3 ∧ 0 ≤ j ∧ j < 4) : fn_plain_part Z [.fz (.str (S (mk1 58 i j))), .fz (.bl false)] = some (.ret (.fz (.tup [.str "put", .int i, .int j])), [.fz (.str (S (mk1 58 i j))), .fz (.bl false)]) ∧ (tabSD t_OPENINGS (S (mk1 58 i j))).isSome = false := by
  have hi : i = 0 ∨ i = 1 ∨ i = 2 := by omega
  have hj : j = 0 ∨ j = 1 ∨ j = 2 ∨ j = 3 := by omega
  rcases hi with rfl | rfl | rfl <;> rcases hj with rfl | rfl | rfl | rfl <;> exact ⟨by kernel_rfl, by kernel_rfl⟩
theorem plain_1 {Z : Zs} : fn_plain_part Z [.fz (.str (S [121, 101, 115])), .fz (.bl false)] = some (.ret (.fz (.tup [.str "yes"])), [.fz (.str (S [121, 101, 115])), .fz (.bl false)]) := by kernel_rfl
theorem plain_2 {Z : Zs} : fn_plain_part Z [.fz (.str (S [110, 111])), .fz (.bl false)] = some (.ret (.fz (.tup [.str "no"])), [.fz (.str (S [110, 111])), .fz (.bl false)]) := by kernel_rfl
theorem plain_3 {Z : Zs} : fn_plain_part Z [.fz (.str (S [110, 111, 116, 101])), .fz (.bl false)] = some (.ret (.fz (.tup [.str "note"])), [.fz (.str (S [110, 111, 116, 101])), .fz (.bl false)]) := by kernel_rfl
theorem open_no : (tabSD t_OPENINGS (S [121, 101, 115])).isSome = false ∧ (tabSD t_OPENINGS (S [110, 111])).isSome = false ∧ (tabSD t_OPENINGS (S [110, 111, 116, 101])).isSome = false := by decide +kernel
theorem open_yes : tabSD t_OPENINGS (S [40]) = some "(" ∧ tabSD t_OPENINGS (S [97, 103, 97, 105, 110, 40]) = some "again" ∧ tabSD t_OPENINGS (S [110, 111, 116, 40]) = some "not" := by decide +kernel
theorem join_yes : tabSD t_JOINTS (S [59]) = some "then" ∧ tabSD t_JOINTS (S [124]) = some "either" ∧ (tabSD t_JOINTS (S [41])).isSome = false := by decide +kernel
theorem frzO (O : List D) : (T.ls (O.map .fz)).frz = .fz (.lst O) := by unfold T.frz; rw [fzs_data]
theorem v_open {Z : Zs} {O : List D} {k : Str} (h : O.length < 40) : fn_open_bracket Z [.ls (O.map .fz), .fz (.str k)] = some (.ret (.fz .non), [.ls ((O ++ [D.str k]).map .fz), .fz (D.str k)]) := by
  have f1 := frzO (O ++ [.str k])
  have c1 : O.length < 1000000 := by omega
  have hg : decide ((40 : Int) < (((O ++ [D.str k]).length : Nat) : Int)) = false := decide_eq_false (by simp; omega)
  apply fe_open_bracket
  · unfold b_open_bracket
    apply EV.seq (r1 := [.ls ((O ++ [D.str k]).map .fz), .fz (D.str k)])
    · simp [fnD, dRet, xLift, dBool, dAnd, dOr, dNot, dBl, dSh, dIsi, dVar, share, T.data, D.isi, D.bool, retW, outP, keepP, dSeq, dIf, xbLift, dC, dOp, dWith, fdCons, fdNil, D.items, Rs.w, dChain, gLe, gLt, gGt, gGe, gRI0, gRI, gAdd, gSubI, dAsg, mv, gdName, dDrop, dCallX, dCall, daCons, daNil, pars, back, putBack, resW, dIfE, dNext, dRaise, dItemsT, dItemsL, dFor, dLift, W.tm, dTru, truth, isFz, dAug, gMul1, dScal, dScalT, T.frz, D.scal, dUn, gNeg, gTupD, gLstD, xNot, xBl, gIx, dSl, gSlT, pAt, pNo, dMv, gInt, dInR, dAppend, isLs, c1]
    · apply EV.ifF
      · apply EV.xb
        apply EV.scalT (b := decide ((40 : Int) < (((O ++ [D.str k]).length : Nat) : Int))) (r1 := [.fz (.lst (O ++ [D.str k])), .fz (D.str k)]) (r2 := [.fz (.lst (O ++ [D.str k])), .fz (D.str k)])
        · show List.map T.frz [.ls ((O ++ [D.str k]).map .fz), .fz (D.str k)] = _
          rw [List.map_cons, f1]; rfl
        · generalize O ++ [D.str k] = L at *
          walk_at "ev"
      · exact hg
      · exact EV.nxt
  walk_at "fin"
end KQ
set_option Elab.async false
set_option linter.all false
set_option maxRecDepth 100000
set_option maxHeartbeats 8000000
namespace KQ
open PySem PySem.Spec PyProof.Rows L2 Q
open SX (S)
theorem kinE {ps : List (Str × Str)} {f : FD} {r r1 : Q.Env} {x : Str} {b : Bool} (h : f r = some (.str x, r1)) (hb : (tabSD ps x).isSome = b) : dKIn ps false f r = some (.sh (.bl b), r1) := by
  unfold dKIn; rw [h]; subst hb; rfl
theorem kixE {ps : List (Str × Str)} {f : FD} {r r1 : Q.Env} {x k : Str} (h : f r = some (.str x, r1)) (hb : tabSD ps x = some k) : dKIx ps f r = some (.sh (.str k), r1) := by
  unfold dKIx; rw [h]
  simp only [Option.bind_some, hb, Option.map_some]
theorem last_at (O : List D) (x : D) : L2.atI (O ++ [x]) (-1) = some x := by
  have e : (-1 + ((O.length : Int) + 1)).toNat = O.length := by omega
  have c : (1 : Int) ≤ (O.length : Int) + 1 := by omega
  simp [L2.atI, L2.ixN, c, e]
theorem ne_app (O : List D) (x : D) : truth (.lst (O ++ [x])) = some true := by
  simp [truth]
theorem frzO1 (O : List D) (x : D) : (T.ls ((O ++ [x]).map .fz)).frz = .fz (.lst (O ++ [x])) := frzO _
theorem v_join {Z : Zs} {O : List D} {k : Str} : fn_join_bracket Z [.ls ((O ++ [D.str "("]).map .fz), .fz (.str k)] = some (.ret (.fz .non), [.ls ((O ++ [D.str k]).map .fz), .fz (.str k)]) := by
  have f1 := frzO1 O (.str "(")
  have a1 := last_at O (.str "(")
  have t1 := ne_app O (.str "(")
  have n1 : gNe [.str "(", .str "("] = some (.val (.bl false)) := by kernel_rfl
  apply fe_join_bracket
  · unfold b_join_bracket
    apply EV.seq (r1 := [.ls ((O ++ [D.str "("]).map .fz), .fz (.str k)])
    · apply EV.ifF
      · apply EV.xb
        apply EV.scalT (b := (!true || false)) (r1 := [.fz (.lst (O ++ [D.str "("])), .fz (D.str k)]) (r2 := [.fz (.lst (O ++ [D.str "("])), .fz (D.str k)])
        · show List.map T.frz [.ls ((O ++ [D.str "("]).map .fz), .fz (.str k)] = _
          rw [List.map_cons, f1]; rfl
        · generalize O ++ [D.str "("] = L at *
          walk_at "ev"
      · rfl
      · exact EV.nxt
    · have i1 : L2.ixN (O ++ [D.str "("]).length (-1) = some O.length := by
        have e : (-1 + ((O.length : Int) + 1)).toNat = O.length := by omega
        have c : (1 : Int) ≤ (O.length : Int) + 1 := by omega
        simp [L2.ixN, c, e]
      have i2 : (O ++ [D.str "("]).set O.length (.str k) = O ++ [D.str k] := by simp
      apply EV.asgV
      · walk_at "ev"
      · apply EV.setO (M := O ++ [D.str "("])
        · rfl
        · walk_at "ev"
        · rfl
        · exact i1
        · rw [i2]
  walk_at "fin"
theorem v_close {Z : Zs} {O : List D} {k : Str} (hk : gEq [.str k, .str "("] = some (.val (.bl false))) : fn_close_bracket Z [.ls ((O ++ [D.str k]).map .fz)] = some (.ret (.fz (.str k)), [.ls (O.map .fz)]) := by
  have f1 := frzO1 O (.str k)
  have a1 := last_at O (.str k)
  have t1 := ne_app O (.str k)
  apply fe_close_bracket
  · unfold b_close_bracket
    apply EV.seq (r1 := [.ls ((O ++ [D.str k]).map .fz)])
    · apply EV.ifF
      · apply EV.xb
        apply EV.scalT (b := (!true || false)) (r1 := [.fz (.lst (O ++ [D.str k]))]) (r2 := [.fz (.lst (O ++ [D.str k]))])
        · show List.map T.frz [.ls ((O ++ [D.str k]).map .fz)] = _
          rw [List.map_cons, f1]; rfl
        · generalize O ++ [D.str k] = L at *
          walk_at "ev"
      · rfl
      · exact EV.nxt
    · walk_at "ev"
  walk_at "fin"
/-! ### a word -/
section
variable {Z : Zs} {t : T} {P O : List D} {x k : Str}
theorem t_leaf {d : D} (hp : fn_plain_part Z [.fz (.str x), .fz (.bl false)] = some (.ret (.fz d), [.fz (.str x), .fz (.bl false)])) (ho : (tabSD t_OPENINGS x).isSome = false) (hl : P.length < 900000) :
    L_parts_in_1 Z [t, .fz (.bl false), .ls (P.map .fz), .ls (O.map .fz), .fz (.bl true), .fz (.str x)] = some (.nx [t, .fz (.bl false), .ls ((P ++ [d]).map .fz), .ls (O.map .fz), .fz (.bl false), .fz (.str x)]) := by
  unfold L_parts_in_1
  apply EV.ifF
  · apply EV.xb
    apply EV.and
    · walk_at "ev"
    · apply EV.bl
      apply EV.shS
      apply kinE
      · walk_at "ev"
      · exact ho
  · rfl
  · apply EV.ifT
    · walk_at "ev"
    · rfl
    · walk_at "ev"
theorem t_open (ho : tabSD t_OPENINGS x = some k) (hl : O.length < 40) :
    L_parts_in_1 Z [t, .fz (.bl false), .ls (P.map .fz), .ls (O.map .fz), .fz (.bl true), .fz (.str x)] = some (.nx [t, .fz (.bl false), .ls (P.map .fz), .ls ((O ++ [D.str k]).map .fz), .fz (.bl true), .fz (.str x)]) := by
  have hv := v_open (Z := Z) (k := k) hl
  unfold L_parts_in_1
  apply EV.ifT
  · apply EV.xb
    apply EV.and
    · walk_at "ev"
    · apply EV.bl
      apply EV.shS
      apply kinE
      · walk_at "ev"
      · rw [ho]
  · rfl
  · apply EV.drop
    apply EV.callXS (ws := [.pl 3, .sh (.str k)])
    · apply EV.ac
      · walk_at "ev"
      · apply EV.ac
        · apply kixE
          · walk_at "ev"
          · exact ho
        · walk_at "ev"
    · walk_at "pars"
    · walk_at "norm"
    · exact hv
    · rfl
    · walk_at "back"
theorem t_join (ho : tabSD t_JOINTS x = some k) :
    L_parts_in_1 Z [t, .fz (.bl false), .ls (P.map .fz), .ls ((O ++ [D.str "("]).map .fz), .fz (.bl false), .fz (.str x)] = some (.nx [t, .fz (.bl false), .ls (P.map .fz), .ls ((O ++ [D.str k]).map .fz), .fz (.bl true), .fz (.str x)]) := by
  have hv := v_join (Z := Z) (O := O) (k := k)
  unfold L_parts_in_1
  apply EV.ifF
  · apply EV.xb
    apply EV.andF
    · walk_at "ev"
    · rfl
  · rfl
  · apply EV.ifF
    · walk_at "ev"
    · rfl
    · apply EV.ifT
      · apply EV.xb
        apply EV.bl
        apply EV.shS
        apply kinE
        · walk_at "ev"
        · rw [ho]
      · rfl
      · apply EV.seq
        · apply EV.drop
          apply EV.callXS (ws := [.pl 3, .sh (.str k)])
          · apply EV.ac
            · walk_at "ev"
            · apply EV.ac
              · apply kixE
                · walk_at "ev"
                · exact ho
              · walk_at "ev"
          · walk_at "pars"
          · walk_at "norm"
          · exact hv
          · rfl
          · walk_at "back"
        · walk_at "ev"
theorem t_close (hk : gEq [.str k, .str "("] = some (.val (.bl false))) (hl : P.length < 900000) :
    L_parts_in_1 Z [t, .fz (.bl false), .ls (P.map .fz), .ls ((O ++ [D.str k]).map .fz), .fz (.bl false), .fz (.str ")")] = some (.nx [t, .fz (.bl false), .ls ((P ++ [D.tup [.str k]]).map .fz), .ls (O.map .fz), .fz (.bl false), .fz (.str ")")]) := by
  have hv := v_close (Z := Z) (O := O) hk
  have e1 : gEq [.str ")", .str ")"] = some (.val (.bl true)) := by kernel_rfl
  have e2 : (tabSD t_JOINTS ")").isSome = false := by decide +kernel
  unfold L_parts_in_1
  apply EV.ifF
  · apply EV.xb
    apply EV.andF
    · walk_at "ev"
    · rfl
  · rfl
  · apply EV.ifF
    · walk_at "ev"
    · rfl
    · apply EV.ifF
      · apply EV.xb
        apply EV.bl
        apply EV.shS
        apply kinE
        · walk_at "ev"
        · exact e2
      · rfl
      · walk_at "ev"
end
end KQ
set_option Elab.async false
set_option linter.all false
set_option maxRecDepth 100000
set_option maxHeartbeats 8000000
namespace KQ
open PySem PySem.Spec PyProof.Rows L2 Q
open SX (S)
abbrev wD (l : List Nat) : D := .str (S l)
theorem post_len : ∀ s : Sy, (post s).length ≤ sz s
  | .yes => by simp [post, sz]
  | .no => by simp [post, sz]
  | .note => by simp [post, sz]
  | .is _ _ => by simp [post, sz]
  | .put _ _ => by simp [post, sz]
  | .thn a b => by have := post_len a; have := post_len b; simp only [post, sz, List.length_append, List.length_cons, List.length_nil]; omega
  | .eit a b => by have := post_len a; have := post_len b; simp only [post, sz, List.length_append, List.length_cons, List.length_nil]; omega
  | .aga a => by have := post_len a; simp only [post, sz, List.length_append, List.length_cons, List.length_nil]; omega
  | .nt a => by have := post_len a; simp only [post, sz, List.length_append, List.length_cons, List.length_nil]; omega
/-- the loop over words -/
abbrev stP (t : T) (P O : List D) (b : Bool) (x : T) : Q.Env := [t, .fz (.bl false), .ls (P.map .fz), .ls (O.map .fz), .fz (.bl b), x]
theorem kne : gEq [.str "then", .str "("] = some (.val (.bl false)) ∧ gEq [.str "either", .str "("] = some (.val (.bl false)) ∧ gEq [.str "again", .str "("] = some (.val (.bl false)) ∧ gEq [.str "not", .str "("] = some (.val (.bl false)) := by refine ⟨?_, ?_, ?_, ?_⟩ <;> kernel_rfl
theorem leaf1 {Z : Zs} {t : T} {P O : List D} {l : List Nat} {d : D} {x : T} {R : List D} (hp : fn_plain_part Z [.fz (.str (S l)), .fz (.bl false)] = some (.ret (.fz d), [.fz (.str (S l)), .fz (.bl false)])) (ho : (tabSD t_OPENINGS (S l)).isSome = false) (hl : P.length < 900000) :
    ∃ x', loopD (gdName 5) (L_parts_in_1 Z) (wD l :: R) (stP t P O true x) = loopD (gdName 5) (L_parts_in_1 Z) R (stP t (P ++ [d]) O false x') :=
  ⟨.fz (wD l), EV.lpN (r1 := stP t P O true (.fz (wD l))) (by rfl) (t_leaf hp ho hl) rfl⟩
theorem two {Z : Zs} {t : T} {P O : List D} {c : Nat} {k : Str} {A B : List D} {wa wb : List D} {x : T} {R : List D} (hk : gEq [.str k, .str "("] = some (.val (.bl false))) (hj : tabSD t_JOINTS (S [c]) = some k) (ho : O.length < 40) (hl : P.length + A.length + B.length < 900000)
    (ha : ∀ R x, ∃ x', loopD (gdName 5) (L_parts_in_1 Z) (wa ++ R) (stP t P (O ++ [D.str "("]) true x) = loopD (gdName 5) (L_parts_in_1 Z) R (stP t (P ++ A) (O ++ [D.str "("]) false x'))
    (hb : ∀ R x, ∃ x', loopD (gdName 5) (L_parts_in_1 Z) (wb ++ R) (stP t (P ++ A) (O ++ [D.str k]) true x) = loopD (gdName 5) (L_parts_in_1 Z) R (stP t (P ++ A ++ B) (O ++ [D.str k]) false x')) :
    ∃ x', loopD (gdName 5) (L_parts_in_1 Z) (wD [40] :: (wa ++ wD [c] :: (wb ++ wD [41] :: R))) (stP t P O true x) = loopD (gdName 5) (L_parts_in_1 Z) R (stP t (P ++ (A ++ B ++ [.tup [.str k]])) O false x') := by
  obtain ⟨x1, h1⟩ := ha (wD [c] :: (wb ++ wD [41] :: R)) (.fz (wD [40]))
  obtain ⟨x2, h2⟩ := hb (wD [41] :: R) (.fz (wD [c]))
  refine ⟨.fz (.str ")"), ?_⟩
  refine EV.lpN (r1 := stP t P O true (.fz (wD [40]))) (by rfl) (t_open open_yes.1 ho) ?_
  refine h1.trans ?_
  refine EV.lpN (r1 := stP t (P ++ A) (O ++ [D.str "("]) false (.fz (wD [c]))) (by rfl) (t_join hj) ?_
  refine h2.trans ?_
  have e41 : wD [41] = .str ")" := by rw [lit9.2.2.2.2.1]
  rw [e41]
  refine EV.lpN (r1 := stP t (P ++ A ++ B) (O ++ [D.str k]) false (.fz (.str ")"))) (by rfl) (t_close hk (by simp only [List.length_append]; omega)) ?_
  simp only [List.append_assoc]
theorem one {Z : Zs} {t : T} {P O : List D} {w : List Nat} {k : Str} {A : List D} {wa : List D} {x : T} {R : List D} (hk : gEq [.str k, .str "("] = some (.val (.bl false))) (hj : tabSD t_OPENINGS (S w) = some k) (ho : O.length < 40) (hl : P.length + A.length < 900000)
    (ha : ∀ R x, ∃ x', loopD (gdName 5) (L_parts_in_1 Z) (wa ++ R) (stP t P (O ++ [D.str k]) true x) = loopD (gdName 5) (L_parts_in_1 Z) R (stP t (P ++ A) (O ++ [D.str k]) false x')) :
    ∃ x', loopD (gdName 5) (L_parts_in_1 Z) (wD w :: (wa ++ wD [41] :: R)) (stP t P O true x) = loopD (gdName 5) (L_parts_in_1 Z) R (stP t (P ++ (A ++ [.tup [.str k]])) O false x') := by
  obtain ⟨x1, h1⟩ := ha (wD [41] :: R) (.fz (wD w))
  refine ⟨.fz (.str ")"), ?_⟩
  refine EV.lpN (r1 := stP t P O true (.fz (wD w))) (by rfl) (t_open hj ho) ?_
  refine h1.trans ?_
  have e41 : wD [41] = .str ")" := by rw [lit9.2.2.2.2.1]
  rw [e41]
  refine EV.lpN (r1 := stP t (P ++ A) (O ++ [D.str k]) false (.fz (.str ")"))) (by rfl) (t_close hk (by simp only [List.length_append]; omega)) ?_
  simp only [List.append_assoc]
theorem pw {Z : Zs} (t : T) : ∀ s : Sy, small s = true → ∀ (P O : List D), O.length + hgt s ≤ 40 → P.length + sz s < 800000 → ∀ (R : List D) (x : T), ∃ x', loopD (gdName 5) (L_parts_in_1 Z) ((wds s).map wD ++ R) (stP t P O true x) = loopD (gdName 5) (L_parts_in_1 Z) R (stP t (P ++ post s) O false x')
  | .yes, _, P, O, _, hl, R, x => leaf1 plain_1 open_no.1 (by omega)
  | .no, _, P, O, _, hl, R, x => leaf1 plain_2 open_no.2.1 (by omega)
  | .note, _, P, O, _, hl, R, x => leaf1 plain_3 open_no.2.2 (by omega)
  | .is i j, h, P, O, _, hl, R, x => leaf1 (plain_is (of_decide_eq_true h)).1 (plain_is (Z := Z) (of_decide_eq_true h)).2 (by omega)
  | .put i j, h, P, O, _, hl, R, x => leaf1 (plain_put (of_decide_eq_true h)).1 (plain_put (Z := Z) (of_decide_eq_true h)).2 (by omega)
  | .thn a b, h, P, O, ho, hl, R, x => by
    simp only [small, Bool.and_eq_true] at h
    have la := post_len a
    have lb := post_len b
    simp only [hgt, sz] at ho hl
    have := two (Z := Z) (t := t) (P := P) (O := O) (c := 59) (k := "then") (A := post a) (B := post b) (wa := (wds a).map wD) (wb := (wds b).map wD) (x := x) (R := R) kne.1 (by rw [← lit9.2.2.2.2.2.1]; exact join_yes.1) (by omega) (by omega)
      (pw t a h.1 P _ (by simp only [List.length_append, List.length_cons, List.length_nil]; omega) (by omega))
      (pw t b h.2 _ _ (by simp only [List.length_append, List.length_cons, List.length_nil]; omega) (by simp only [List.length_append]; omega))
    simpa only [wds, post, List.map_cons, List.map_append, List.map_nil, List.append_assoc, List.cons_append, List.nil_append] using this
  | .eit a b, h, P, O, ho, hl, R, x => by
    simp only [small, Bool.and_eq_true] at h
    have la := post_len a
    have lb := post_len b
    simp only [hgt, sz] at ho hl
    have := two (Z := Z) (t := t) (P := P) (O := O) (c := 124) (k := "either") (A := post a) (B := post b) (wa := (wds a).map wD) (wb := (wds b).map wD) (x := x) (R := R) kne.2.1 (by rw [← lit9.2.2.2.2.2.2.1]; exact join_yes.2.1) (by omega) (by omega)
      (pw t a h.1 P _ (by simp only [List.length_append, List.length_cons, List.length_nil]; omega) (by omega))
      (pw t b h.2 _ _ (by simp only [List.length_append, List.length_cons, List.length_nil]; omega) (by simp only [List.length_append]; omega))
    simpa only [wds, post, List.map_cons, List.map_append, List.map_nil, List.append_assoc, List.cons_append, List.nil_append] using this
  | .aga a, h, P, O, ho, hl, R, x => by
    have la := post_len a
    simp only [hgt, sz] at ho hl
    have := one (Z := Z) (t := t) (P := P) (O := O) (w := [97, 103, 97, 105, 110, 40]) (k := "again") (A := post a) (wa := (wds a).map wD) (x := x) (R := R) kne.2.2.1 open_yes.2.1 (by omega) (by omega)
      (pw t a h P _ (by simp only [List.length_append, List.length_cons, List.length_nil]; omega) (by omega))
    simpa only [wds, post, List.map_cons, List.map_append, List.map_nil, List.append_assoc, List.cons_append, List.nil_append] using this
  | .nt a, h, P, O, ho, hl, R, x => by
    have la := post_len a
    simp only [hgt, sz] at ho hl
    have := one (Z := Z) (t := t) (P := P) (O := O) (w := [110, 111, 116, 40]) (k := "not") (A := post a) (wa := (wds a).map wD) (x := x) (R := R) kne.2.2.2 open_yes.2.2 (by omega) (by omega)
      (pw t a h P _ (by simp only [List.length_append, List.length_cons, List.length_nil]; omega) (by omega))
    simpa only [wds, post, List.map_cons, List.map_append, List.map_nil, List.append_assoc, List.cons_append, List.nil_append] using this
theorem v_parts {Z : Zs} {s : Sy} (h : small s = true) (hz : sz s ≤ 100) (hh : hgt s ≤ 40) : fn_parts_in Z [.fz (.str (S (ct s))), .fz (.bl false)] = some (.ret (oL (post s)), [.fz (.str (S (ct s))), .fz (.bl false)]) := by
  have hw := v_words (Z := Z) h hz
  obtain ⟨x', hl⟩ := pw (Z := Z) (.fz (.str (S (ct s)))) s h [] [] (by simpa using hh) (by simp only [List.length_nil]; omega) [] .un
  rw [List.append_nil, List.nil_append] at hl
  have e : (wds s).map wD = (wds s).map fun l => D.str (S l) := rfl
  rw [e] at hl
  generalize post s = PP at *
  generalize (wds s).map (fun l => D.str (S l)) = WW at *
  generalize S (ct s) = tx at *
  have hl' : loopD (gdName 5) (L_parts_in_1 Z) WW [.fz (.str tx), .fz (.bl false), .ls [], .ls [], .fz (.bl true), .un] = some (.nx [.fz (.str tx), .fz (.bl false), .ls (PP.map .fz), .ls [], .fz (.bl false), x']) := hl
  have f1 := frzO PP
  have hd : dataL (WW.map T.fz) = some WW := by
    have := fzs_data WW
    simpa [T.data] using this
  apply fe_parts_in
  · unfold b_parts_in
    walk_at "st"
    walk_at "st"
    walk_at "st"
    apply EV.seq
    · apply EV.for_
      · apply EV.itL
        apply EV.shNT
        · walk_at "ev"
        · exact fzs_data WW
      · exact hl'
    · apply EV.seq (r1 := [.fz (.str tx), .fz (.bl false), .ls (PP.map .fz), .ls [], .fz (.bl false), x'])
      · apply EV.ifF
        · apply EV.xb
          apply EV.scalT (r2 := [.fz (.str tx), .fz (.bl false), .fz (.lst PP), .fz (.lst []), .fz (.bl false), x'.frz])
          · show List.map T.frz _ = _
            simp only [List.map_cons, List.map_nil, f1]
            rfl
          · walk_at "ev"
        · rfl
        · exact EV.nxt
      · walk_at "ev"
  walk_at "fin"
/-! ### put together -/
abbrev stM (a b : T) (M : List D) (x y z : T) : Q.Env := [a, b, .ls (M.map .fz), x, y, z]
theorem eqN : gEq [.str "yes", .str "name"] = some (.val (.bl false)) ∧ gEq [.str "no", .str "name"] = some (.val (.bl false)) ∧ gEq [.str "note", .str "name"] = some (.val (.bl false)) ∧ gEq [.str "is", .str "name"] = some (.val (.bl false)) ∧ gEq [.str "put", .str "name"] = some (.val (.bl false)) ∧ gEq [.str "then", .str "name"] = some (.val (.bl false)) ∧ gEq [.str "either", .str "name"] = some (.val (.bl false)) ∧ gEq [.str "again", .str "name"] = some (.val (.bl false)) ∧ gEq [.str "not", .str "name"] = some (.val (.bl false)) := by refine ⟨?_, ?_, ?_, ?_, ?_, ?_, ?_, ?_, ?_⟩ <;> kernel_rfl
abbrev na : D := .tup [.str "not", .str "again"]
abbrev te : D := .tup [.str "then", .str "either"]
theorem inNA : gIn false [.str "yes", na] = some (.val (.bl false)) ∧ gIn false [.str "no", na] = some (.val (.bl false)) ∧ gIn false [.str "note", na] = some (.val (.bl false)) ∧ gIn false [.str "is", na] = some (.val (.bl false)) ∧ gIn false [.str "put", na] = some (.val (.bl false)) ∧ gIn false [.str "then", na] = some (.val (.bl false)) ∧ gIn false [.str "either", na] = some (.val (.bl false)) ∧ gIn false [.str "again", na] = some (.val (.bl true)) ∧ gIn false [.str "not", na] = some (.val (.bl true)) := by refine ⟨?_, ?_, ?_, ?_, ?_, ?_, ?_, ?_, ?_⟩ <;> kernel_rfl
theorem inTE : gIn false [.str "yes", te] = some (.val (.bl false)) ∧ gIn false [.str "no", te] = some (.val (.bl false)) ∧ gIn false [.str "note", te] = some (.val (.bl false)) ∧ gIn false [.str "is", te] = some (.val (.bl false)) ∧ gIn false [.str "put", te] = some (.val (.bl false)) ∧ gIn false [.str "then", te] = some (.val (.bl true)) ∧ gIn false [.str "either", te] = some (.val (.bl true)) := by refine ⟨?_, ?_, ?_, ?_, ?_, ?_, ?_⟩ <;> kernel_rfl
section
variable {a b x y z : T} {M : List D}
theorem m_leaf {w : Str} {l : List D} (h1 : gEq [.str w, .str "name"] = some (.val (.bl false))) (h2 : gIn false [.str w, na] = some (.val (.bl false))) (h3 : gIn false [.str w, te] = some (.val (.bl false))) (hl : M.length < 900000) : L_saying_from_1 (stM a b M (.fz (.tup (.str w :: l))) y z) = some (.nx (stM a b (M ++ [.tup (.str w :: l)]) (.fz (.tup (.str w :: l))) (.fz (.str w)) z)) := by
  have a0 : L2.atI (D.str w :: l) 0 = some (.str w) := by simp [L2.atI, L2.ixN]
  unfold L_saying_from_1
  walk_at "ev"
theorem appZ {i : Nat} {f : MD} {r r1 r2 : Q.Env} {M : List D} {d : D} {l : List T} (h0 : r[i]? = some (.ls l)) (h1 : f r = some (.fz d, r1)) (h2 : r1[i]? = some (.ls (M.map .fz))) (hl : M.length < 1000000) (hs : r1.set i (.ls ((M ++ [d]).map .fz)) = r2) : dAppend i f r = some (.sh .non, r2) := by
  have e : (M ++ [d]).map T.fz = M.map .fz ++ [.fz d] := by simp
  have hl2 : (M.map T.fz).length < 1000000 := by rw [List.length_map]; exact hl
  unfold dAppend
  rw [h0, h1]
  simp only [isLs, if_true, Option.bind_some, h2, hl2, ← hs, e]
theorem m_one {w : Str} {d : D} (h1 : gEq [.str w, .str "name"] = some (.val (.bl false))) (h2 : gIn false [.str w, na] = some (.val (.bl true))) (hl : M.length < 900000) : L_saying_from_1 (stM a b (M ++ [d]) (.fz (.tup [.str w])) y z) = some (.nx (stM a b (M ++ [D.tup [.str w, d]]) (.fz (.tup [.str w])) (.fz (.str w)) z)) := by
  unfold L_saying_from_1
  walk_at "st"
  apply EV.ifF
  · walk_at "ev"
  · rfl
  apply EV.ifT
  · walk_at "ev"
  · rfl
  apply EV.drop
  apply EV.xl
  apply appZ (M := M)
  · rfl
  · walk_at "ev"
  · rfl
  · omega
  · rfl
theorem m_two {w : Str} {d e : D} (h1 : gEq [.str w, .str "name"] = some (.val (.bl false))) (h2 : gIn false [.str w, na] = some (.val (.bl false))) (h3 : gIn false [.str w, te] = some (.val (.bl true))) (hl : M.length < 900000) : L_saying_from_1 (stM a b (M ++ [d] ++ [e]) (.fz (.tup [.str w])) y z) = some (.nx (stM a b (M ++ [D.tup [.str w, d, e]]) (.fz (.tup [.str w])) (.fz (.str w)) (.fz e))) := by
  unfold L_saying_from_1
  walk_at "st"
  apply EV.ifF
  · walk_at "ev"
  · rfl
  apply EV.ifF
  · walk_at "ev"
  · rfl
  apply EV.ifT
  · walk_at "ev"
  · rfl
  walk_at "st"
  apply EV.drop
  apply EV.xl
  apply appZ (M := M)
  · rfl
  · walk_at "ev"
  · rfl
  · omega
  · rfl
end
theorem mleaf {a b x y z : T} {M R : List D} {w : Str} {l : List D} (h1 : gEq [.str w, .str "name"] = some (.val (.bl false))) (h2 : gIn false [.str w, na] = some (.val (.bl false))) (h3 : gIn false [.str w, te] = some (.val (.bl false))) (hl : M.length < 900000) : ∃ x' y' z', loopD (gdName 3) L_saying_from_1 (.tup (.str w :: l) :: R) (stM a b M x y z) = loopD (gdName 3) L_saying_from_1 R (stM a b (M ++ [.tup (.str w :: l)]) x' y' z') :=
  ⟨_, _, _, EV.lpN (r1 := stM a b M (.fz (.tup (.str w :: l))) y z) (by rfl) (m_leaf h1 h2 h3 hl) rfl⟩
theorem sf (a b : T) : ∀ (s : Sy) (M R : List D) (x y z : T), M.length + sz s < 800000 → ∃ x' y' z', loopD (gdName 3) L_saying_from_1 (post s ++ R) (stM a b M x y z) = loopD (gdName 3) L_saying_from_1 R (stM a b (M ++ [s.d]) x' y' z')
  | .yes, M, R, x, y, z, h => mleaf eqN.1 inNA.1 inTE.1 (by omega)
  | .no, M, R, x, y, z, h => mleaf eqN.2.1 inNA.2.1 inTE.2.1 (by omega)
  | .note, M, R, x, y, z, h => mleaf eqN.2.2.1 inNA.2.2.1 inTE.2.2.1 (by omega)
  | .is i j, M, R, x, y, z, h => mleaf eqN.2.2.2.1 inNA.2.2.2.1 inTE.2.2.2.1 (by omega)
  | .put i j, M, R, x, y, z, h => mleaf eqN.2.2.2.2.1 inNA.2.2.2.2.1 inTE.2.2.2.2.1 (by omega)
  | .thn s t, M, R, x, y, z, h => by
    simp only [sz] at h
    obtain ⟨x1, y1, z1, h1⟩ := sf a b s M (post t ++ (.tup [.str "then"] :: R)) x y z (by omega)
    obtain ⟨x2, y2, z2, h2⟩ := sf a b t (M ++ [s.d]) (.tup [.str "then"] :: R) x1 y1 z1 (by simp only [List.length_append, List.length_cons, List.length_nil]; omega)
    refine ⟨.fz (.tup [.str "then"]), .fz (.str "then"), .fz t.d, ?_⟩
    simp only [post, List.append_assoc, List.cons_append, List.nil_append]
    refine h1.trans (h2.trans ?_)
    exact EV.lpN (r1 := stM a b (M ++ [s.d] ++ [t.d]) (.fz (.tup [.str "then"])) y2 z2) (by rfl) (m_two eqN.2.2.2.2.2.1 inNA.2.2.2.2.2.1 inTE.2.2.2.2.2.1 (by omega)) rfl
  | .eit s t, M, R, x, y, z, h => by
    simp only [sz] at h
    obtain ⟨x1, y1, z1, h1⟩ := sf a b s M (post t ++ (.tup [.str "either"] :: R)) x y z (by omega)
    obtain ⟨x2, y2, z2, h2⟩ := sf a b t (M ++ [s.d]) (.tup [.str "either"] :: R) x1 y1 z1 (by simp only [List.length_append, List.length_cons, List.length_nil]; omega)
    refine ⟨.fz (.tup [.str "either"]), .fz (.str "either"), .fz t.d, ?_⟩
    simp only [post, List.append_assoc, List.cons_append, List.nil_append]
    refine h1.trans (h2.trans ?_)
    exact EV.lpN (r1 := stM a b (M ++ [s.d] ++ [t.d]) (.fz (.tup [.str "either"])) y2 z2) (by rfl) (m_two eqN.2.2.2.2.2.2.1 inNA.2.2.2.2.2.2.1 inTE.2.2.2.2.2.2 (by omega)) rfl
  | .aga s, M, R, x, y, z, h => by
    simp only [sz] at h
    obtain ⟨x1, y1, z1, h1⟩ := sf a b s M (.tup [.str "again"] :: R) x y z (by omega)
    refine ⟨.fz (.tup [.str "again"]), .fz (.str "again"), z1, ?_⟩
    simp only [post, List.append_assoc, List.cons_append, List.nil_append]
    refine h1.trans ?_
    exact EV.lpN (r1 := stM a b (M ++ [s.d]) (.fz (.tup [.str "again"])) y1 z1) (by rfl) (m_one eqN.2.2.2.2.2.2.2.1 inNA.2.2.2.2.2.2.2.1 (by omega)) rfl
  | .nt s, M, R, x, y, z, h => by
    simp only [sz] at h
    obtain ⟨x1, y1, z1, h1⟩ := sf a b s M (.tup [.str "not"] :: R) x y z (by omega)
    refine ⟨.fz (.tup [.str "not"]), .fz (.str "not"), z1, ?_⟩
    simp only [post, List.append_assoc, List.cons_append, List.nil_append]
    refine h1.trans ?_
    exact EV.lpN (r1 := stM a b (M ++ [s.d]) (.fz (.tup [.str "not"])) y1 z1) (by rfl) (m_one eqN.2.2.2.2.2.2.2.2 inNA.2.2.2.2.2.2.2.2 (by omega)) rfl
theorem v_from {s : Sy} (hz : sz s ≤ 100) : fn_saying_from [oL (post s), .dk [] []] = some (.ret (.fz s.d), [.fz (.lst (post s)), .dk [] []]) := by
  obtain ⟨x', y', z', hl⟩ := sf (.fz (.lst (post s))) (.dk [] []) s [] [] .un .un .un (by simp only [List.length_nil]; omega)
  rw [List.append_nil, List.nil_append] at hl
  have hd := fzs_data (post s)
  generalize post s = PP at *
  generalize s.d = sd at *
  have hl' : loopD (gdName 3) L_saying_from_1 PP [.fz (.lst PP), .dk [] [], .ls [], .un, .un, .un] = some (.nx [.fz (.lst PP), .dk [] [], .ls (([] ++ [sd]).map .fz), x', y', z']) := hl
  apply fe_saying_from
  · unfold b_saying_from
    walk_at "st"
    apply EV.seq
    · apply EV.for_
      · apply EV.itL
        apply EV.shO (M := PP)
        · rfl
        · walk_at "set"
      · exact hl'
    · walk_at "ev"
  walk_at "fin"
theorem v_read {Z : Zs} {sh : List D} {s : Sy} (hs : GSh sh) (h : okS sh s = true) (hn : notes s ≤ 5) (hz : sz s ≤ 100) (hh : hgt s ≤ 40) : fn_read_saying Z [.fz (.tup sh), .fz (.str (S (ct s)))] = some (.ret (.fz s.d), [.fz (.tup sh), .fz (.str (S (ct s)))]) := by
  have hsm := small_S hs s h
  have c1 := v_check (Z := Z) hs
  have c2 := v_parts (Z := Z) hsm hz hh
  have c3 := v_from (s := s) hz
  have hl := lv_fin _ (fin_S hs s h)
  have hsz : s.d.size ≤ 900000 := Nat.le_trans (size_wt _) (Nat.le_trans (wt_d s) (by omega))
  have c4 := v_is_saying (Z := Z) hs hl hsz
  have e : decide (ntd sh s.d < 6) = true := decide_eq_true (by rw [ntd_d s h]; omega)
  rw [e] at c4
  generalize post s = PP at *
  generalize s.d = sd at *
  generalize S (ct s) = tx at *
  generalize D.tup sh = SH at *
  apply fe_read_saying
  · unfold b_read_saying
    walk_at "st"
    walk_at "st"
    walk_at "st"
    walk_at "ev"
  walk_at "fin"
end KQ
set_option Elab.async false
set_option linter.all false
set_option maxRecDepth 100000
set_option maxHeartbeats 8000000
namespace KQ
open PySem PySem.Spec PyProof.Rows L2 Q
open SX (S)
theorem ct_cp : ∀ s : Sy, small s = true → (ct s).all (fun c => decide (c < 1114112)) = true
  | .yes, _ => by decide
  | .no, _ => by decide
  | .note, _ => by decide
  | .is i j, h => by
    have h := of_decide_eq_true h
    simp only [ct, mk1, List.all_cons, List.all_nil, Bool.and_true, Bool.and_eq_true, decide_eq_true_eq]
    omega
  | .put i j, h => by
    have h := of_decide_eq_true h
    simp only [ct, mk1, List.all_cons, List.all_nil, Bool.and_true, Bool.and_eq_true, decide_eq_true_eq]
    omega
  | .thn a b, h => by
    simp only [small, Bool.and_eq_true] at h
    simp [ct]
    exact ⟨by simpa using ct_cp a h.1, by simpa using ct_cp b h.2⟩
  | .eit a b, h => by
    simp only [small, Bool.and_eq_true] at h
    simp [ct]
    exact ⟨by simpa using ct_cp a h.1, by simpa using ct_cp b h.2⟩
  | .aga a, h => by
    simp [ct]
    simpa using ct_cp a h
  | .nt a, h => by
    simp [ct]
    simpa using ct_cp a h
theorem ct_ok {s : Sy} (h : small s = true) : PyData.strOk (S (ct s)) = true := by
  show (S (ct s)).cps.all _ = true
  have := ct_cp s h
  simpa using this
/-! ### the text, part by part -/
abbrev yn : D := .lst [.str "yes", .str "no", .str "note"]
theorem inYN : gIn false [.str "then", yn] = some (.val (.bl false)) ∧ gIn false [.str "either", yn] = some (.val (.bl false)) ∧ gIn false [.str "again", yn] = some (.val (.bl false)) ∧ gIn false [.str "not", yn] = some (.val (.bl false)) := by refine ⟨?_, ?_, ?_, ?_⟩ <;> kernel_rfl
theorem eqI' : gEq [.str "then", .str "is"] = some (.val (.bl false)) ∧ gEq [.str "either", .str "is"] = some (.val (.bl false)) ∧ gEq [.str "again", .str "is"] = some (.val (.bl false)) ∧ gEq [.str "not", .str "is"] = some (.val (.bl false)) := by refine ⟨?_, ?_, ?_, ?_⟩ <;> kernel_rfl
theorem eqP : gEq [.str "then", .str "put"] = some (.val (.bl false)) ∧ gEq [.str "either", .str "put"] = some (.val (.bl false)) ∧ gEq [.str "again", .str "put"] = some (.val (.bl false)) ∧ gEq [.str "not", .str "put"] = some (.val (.bl false)) := by refine ⟨?_, ?_, ?_, ?_⟩ <;> kernel_rfl
theorem eqNo : gEq [.str "then", .str "not"] = some (.val (.bl false)) ∧ gEq [.str "either", .str "not"] = some (.val (.bl false)) ∧ gEq [.str "again", .str "not"] = some (.val (.bl false)) ∧ gEq [.str "not", .str "not"] = some (.val (.bl true)) := by refine ⟨?_, ?_, ?_, ?_⟩ <;> kernel_rfl
theorem eqAg : gEq [.str "then", .str "again"] = some (.val (.bl false)) ∧ gEq [.str "either", .str "again"] = some (.val (.bl false)) ∧ gEq [.str "again", .str "again"] = some (.val (.bl true)) := by refine ⟨?_, ?_, ?_⟩ <;> kernel_rfl
theorem eqEi : gEq [.str "then", .str "either"] = some (.val (.bl false)) ∧ gEq [.str "either", .str "either"] = some (.val (.bl true)) := by refine ⟨?_, ?_⟩ <;> kernel_rfl
theorem vt_is {k : Nat} {i j : Int} (h : 0 ≤ i ∧ i < 3 ∧ 0 ≤ j ∧ j < 4) : fn__law_text (k + 1) [.fz (.tup [.str "is", .int i, .int j])] = some (.ret (.fz (.str (S (mk1 61 i j)))), [.fz (.tup [.str "is", .int i, .int j])]) := by
  have hi : i = 0 ∨ i = 1 ∨ i = 2 := by omega
  have hj : j = 0 ∨ j = 1 ∨ j = 2 ∨ j = 3 := by omega
  rcases hi with rfl | rfl | rfl <;> rcases hj with rfl | rfl | rfl | rfl <;> kernel_rfl
theorem vt_put {k : Nat} {i j : Int} (h : 0 ≤ i ∧ i < 3 ∧ 0 ≤ j ∧ j < 4) : fn__law_text (k + 1) [.fz (.tup [.str "put", .int i, .int j])] = some (.ret (.fz (.str (S (mk1 58 i j)))), [.fz (.tup [.str "put", .int i, .int j])]) := by
  have hi : i = 0 ∨ i = 1 ∨ i = 2 := by omega
  have hj : j = 0 ∨ j = 1 ∨ j = 2 ∨ j = 3 := by omega
  rcases hi with rfl | rfl | rfl <;> rcases hj with rfl | rfl | rfl | rfl <;> kernel_rfl
theorem vt_1 {k : Nat} : fn__law_text (k + 1) [.fz (.tup [.str "yes"])] = some (.ret (.fz (.str (S [121, 101, 115]))), [.fz (.tup [.str "yes"])]) := by kernel_rfl
theorem vt_2 {k : Nat} : fn__law_text (k + 1) [.fz (.tup [.str "no"])] = some (.ret (.fz (.str (S [110, 111]))), [.fz (.tup [.str "no"])]) := by kernel_rfl
theorem vt_3 {k : Nat} : fn__law_text (k + 1) [.fz (.tup [.str "note"])] = some (.ret (.fz (.str (S [110, 111, 116, 101]))), [.fz (.tup [.str "note"])]) := by kernel_rfl
theorem one_len : ("(" : Str).length = 1 ∧ (")" : Str).length = 1 ∧ (";" : Str).length = 1 ∧ ("|" : Str).length = 1 ∧ ("again" : Str).length = 5 ∧ ("not" : Str).length = 3 := by decide +kernel
theorem catG {fa fb : FD} {r r1 r2 : Q.Env} {a b c : Str} (h1 : fa r = some (.str a, r1)) (h2 : fb r1 = some (.str b, r2)) (hl : a.length + b.length ≤ 1000000) (e : a ++ b = c) : dOp gCatS fa fb r = some (.sh (.str c), r2) := by
  subst e; exact EV.catS h1 h2 hl
theorem vt_two {k : Nat} {w : Str} {a b : D} {x y : List Nat} {c : Nat} (i1 : gIn false [.str w, yn] = some (.val (.bl false))) (i2 : gEq [.str w, .str "is"] = some (.val (.bl false))) (i3 : gEq [.str w, .str "put"] = some (.val (.bl false))) (i4 : gEq [.str w, .str "not"] = some (.val (.bl false))) (i5 : gEq [.str w, .str "again"] = some (.val (.bl false)))
    {q : Bool} (i6 : gEq [.str w, .str "either"] = some (.val (.bl q))) (hm : L2.atI ([.str ";", .str "|"] : List D) (if q = true then 1 else 0) = some (.str (S [c])))
    (hx : x.length ≤ 1000) (hy : y.length ≤ 1000)
    (ha : fn__law_text k [.fz a] = some (.ret (.fz (.str (S x))), [.fz a])) (hb : fn__law_text k [.fz b] = some (.ret (.fz (.str (S y))), [.fz b])) :
    fn__law_text (k + 1) [.fz (.tup [.str w, a, b])] = some (.ret (.fz (.str (S (40 :: (x ++ c :: (y ++ [41])))))), [.fz (.tup [.str w, a, b])]) := by
  have x0 : L2.atI [D.str w, a, b] 0 = some (.str w) := rfl
  have x1 : L2.atI [D.str w, a, b] 1 = some a := rfl
  have x2 : L2.atI [D.str w, a, b] 2 = some b := rfl
  obtain ⟨n1, n2, _⟩ := one_len
  have l1 : ("(" : Str) ++ S x = S (40 :: x) := by rw [lit9.2.2.2.1, SX.S_cat]; rfl
  have l2 : S (40 :: x) ++ S [c] = S (40 :: (x ++ [c])) := by rw [SX.S_cat]; rfl
  have l3 : S (40 :: (x ++ [c])) ++ S y = S (40 :: (x ++ c :: y)) := by rw [SX.S_cat]; simp
  have l4 : S (40 :: (x ++ c :: y)) ++ (")" : Str) = S (40 :: (x ++ c :: (y ++ [41]))) := by rw [lit9.2.2.2.2.1, SX.S_cat]; simp
  apply fe__law_text
  · unfold b__law_text
    walk_at "st"
    walk_at "st"
    walk_at "st"
    walk_at "st"
    apply EV.ret
    apply EV.xl
    apply catG
    · apply EV.shS
      apply catG
      · apply EV.shS
        apply catG
        · apply EV.shS
          apply catG
          · walk_at "ev"
          · apply EV.shS
            walk_at "ev"
          · rw [n1, SX.S_len]; omega
          · exact l1
        · apply EV.shS
          apply EV.ixL
          · walk_at "ev"
          · walk_at "ev"
          · exact hm
        · simp only [SX.S_len, List.length_cons, List.length_nil]; omega
        · exact l2
      · apply EV.shS
        walk_at "ev"
      · simp only [SX.S_len, List.length_cons, List.length_append, List.length_nil]; omega
      · exact l3
    · walk_at "ev"
    · rw [n2]; simp only [SX.S_len, List.length_cons, List.length_append, List.length_nil]; omega
    · exact l4
  walk_at "fin"
theorem vt_one {k : Nat} {w : Str} {a : D} {x wl : List Nat} (i1 : gIn false [.str w, yn] = some (.val (.bl false))) (i2 : gEq [.str w, .str "is"] = some (.val (.bl false))) (i3 : gEq [.str w, .str "put"] = some (.val (.bl false))) {q p : Bool} (i4 : gEq [.str w, .str "not"] = some (.val (.bl q))) (i5 : gEq [.str w, .str "again"] = some (.val (.bl p))) (hq : (q || p) = true)
    (hw : w = S wl) (hn : wl.length ≤ 10) (hx : x.length ≤ 1000)
    (ha : fn__law_text k [.fz a] = some (.ret (.fz (.str (S x))), [.fz a])) :
    fn__law_text (k + 1) [.fz (.tup [.str w, a])] = some (.ret (.fz (.str (S (wl ++ 40 :: (x ++ [41]))))), [.fz (.tup [.str w, a])]) := by
  have x0 : L2.atI [D.str w, a] 0 = some (.str w) := rfl
  have x1 : L2.atI [D.str w, a] 1 = some a := rfl
  obtain ⟨n1, n2, _⟩ := one_len
  have l1 : w ++ ("(" : Str) = S (wl ++ [40]) := by rw [lit9.2.2.2.1, hw, SX.S_cat]
  have l2 : S (wl ++ [40]) ++ S x = S (wl ++ 40 :: x) := by rw [SX.S_cat]; simp
  have l3 : S (wl ++ 40 :: x) ++ (")" : Str) = S (wl ++ 40 :: (x ++ [41])) := by rw [lit9.2.2.2.2.1, SX.S_cat]; simp
  have lw : w.length ≤ 10 := by rw [hw, SX.S_len]; exact hn
  apply fe__law_text
  · unfold b__law_text
    walk_at "st"
    walk_at "st"
    walk_at "st"
    apply EV.seqR
    · apply EV.ifT
      · apply EV.xb
        apply EV.or
        · walk_at "ev"
        · walk_at "ev"
      · exact hq
      · apply EV.ret
        apply EV.xl
        apply catG
        · apply EV.shS
          apply catG
          · apply EV.shS
            apply catG
            · walk_at "ev"
            · walk_at "ev"
            · rw [n1]; omega
            · exact l1
          · walk_at "ev"
          · simp only [SX.S_len, List.length_cons, List.length_append, List.length_nil]; omega
          · exact l2
        · walk_at "ev"
        · rw [n2]; simp only [SX.S_len, List.length_cons, List.length_append, List.length_nil]; omega
        · exact l3
    · rfl
  walk_at "fin"
theorem v_text : ∀ (s : Sy), small s = true → ∀ k, hgt s ≤ k → sz s ≤ 100 → fn__law_text k [.fz s.d] = some (.ret (.fz (.str (S (ct s)))), [.fz s.d]) := by
  intro s
  induction s with
  | yes => intro _ k hk _; obtain ⟨k, rfl⟩ : ∃ j, k = j + 1 := ⟨k - 1, by simp only [hgt] at hk; omega⟩; exact vt_1
  | no => intro _ k hk _; obtain ⟨k, rfl⟩ : ∃ j, k = j + 1 := ⟨k - 1, by simp only [hgt] at hk; omega⟩; exact vt_2
  | note => intro _ k hk _; obtain ⟨k, rfl⟩ : ∃ j, k = j + 1 := ⟨k - 1, by simp only [hgt] at hk; omega⟩; exact vt_3
  | is i j => intro h k hk _; obtain ⟨k, rfl⟩ : ∃ j, k = j + 1 := ⟨k - 1, by simp only [hgt] at hk; omega⟩; exact vt_is (of_decide_eq_true h)
  | put i j => intro h k hk _; obtain ⟨k, rfl⟩ : ∃ j, k = j + 1 := ⟨k - 1, by simp only [hgt] at hk; omega⟩; exact vt_put (of_decide_eq_true h)
  | thn a b iha ihb =>
    intro h k hk hz
    simp only [hgt] at hk
    simp only [sz] at hz
    simp only [small, Bool.and_eq_true] at h
    obtain ⟨k, rfl⟩ : ∃ j, k = j + 1 := ⟨k - 1, by omega⟩
    have la := len_ct a
    have lb := len_ct b
    exact vt_two (c := 59) inYN.1 eqI'.1 eqP.1 eqNo.1 eqAg.1 eqEi.1 (by rw [← lit9.2.2.2.2.2.1]; rfl) (by omega) (by omega) (iha h.1 k (by omega) (by omega)) (ihb h.2 k (by omega) (by omega))
  | eit a b iha ihb =>
    intro h k hk hz
    simp only [hgt] at hk
    simp only [sz] at hz
    simp only [small, Bool.and_eq_true] at h
    obtain ⟨k, rfl⟩ : ∃ j, k = j + 1 := ⟨k - 1, by omega⟩
    have la := len_ct a
    have lb := len_ct b
    exact vt_two (c := 124) inYN.2.1 eqI'.2.1 eqP.2.1 eqNo.2.1 eqAg.2.1 eqEi.2 (by rw [← lit9.2.2.2.2.2.2.1]; rfl) (by omega) (by omega) (iha h.1 k (by omega) (by omega)) (ihb h.2 k (by omega) (by omega))
  | aga a iha =>
    intro h k hk hz
    simp only [hgt] at hk
    simp only [sz] at hz
    obtain ⟨k, rfl⟩ : ∃ j, k = j + 1 := ⟨k - 1, by omega⟩
    have la := len_ct a
    exact vt_one inYN.2.2.1 eqI'.2.2.1 eqP.2.2.1 eqNo.2.2.1 eqAg.2.2 rfl lit9.2.2.2.2.2.2.2.1 (by decide) (by omega) (iha h k (by omega) (by omega))
  | nt a iha =>
    intro h k hk hz
    simp only [hgt] at hk
    simp only [sz] at hz
    obtain ⟨k, rfl⟩ : ∃ j, k = j + 1 := ⟨k - 1, by omega⟩
    have la := len_ct a
    exact vt_one (p := false) inYN.2.2.2 eqI'.2.2.2 eqP.2.2.2 eqNo.2.2.2 (by kernel_rfl) rfl lit9.2.2.2.2.2.2.2.2.1 (by decide) (by omega) (iha h k (by omega) (by omega))
end KQ
set_option Elab.async false
set_option linter.all false
set_option maxRecDepth 100000
set_option maxHeartbeats 8000000
namespace KQ
open PySem PySem.Spec PyProof.Rows L2 Q
open SX (S)
structure Fcts (K : PySem.W.Frag) (Z : Zs) : Prop where
  ok : True
abbrev prD (l : List Int) (s : Sy) : D := .tup [.tup (l.map .int), s.d]
theorem turnE {Z : Zs} {l : List Int} {s : Sy} (P : Pr l s) {a0 a1 a2 a5 a6 : T} : ∃ b5 b6, L_law_2 Z [a0, a1, a2, .fz (.tup (l.map .int)), .fz s.d, a5, a6] = some (.nx [a0, a1, a2, .fz (.tup (l.map .int)), .fz s.d, b5, b6]) := by
  have hs := gsh_of P.m
  have hsm := small_S hs s P.ok
  have z := P.z
  have h := P.h
  have c1 := v_shown (Z := Z) hs P.ok P.n5 (by omega)
  rw [text_S hsm] at c1
  have c2 := v_text s hsm FU (by unfold FU; omega) (by omega)
  have c3 := v_read (Z := Z) hs P.ok P.n5 (by omega) (by omega)
  have sh := shw_S P
  obtain ⟨rp, hr, ho⟩ := rep_ok sh.f (by have := sh.e; omega) (by have := sh.w; omega)
  have n1 := ne_str (ct_ok hsm)
  have n2 := ne_str ho
  generalize S (ct s) = tx at *
  generalize s.d = sd at *
  generalize D.tup (l.map .int) = SH at *
  refine ⟨.fz (.str rp), .fz (.str tx), ?_⟩
  unfold L_law_2
  walk_at "st"
  walk_at "st"
  walk_at "st"
  walk_at "ev"
theorem loopT {Z : Zs} {a0 a1 a2 : T} : ∀ (M : List (List Int × Sy)) (x3 x4 x5 x6 : T), (∀ p ∈ M, Pr p.1 p.2) → ∃ y3 y4 y5 y6, loopD (gdTup 2 (gdCons (gdName 3) (gdCons (gdName 4) gdNil))) (L_law_2 Z) (M.map fun p => prD p.1 p.2) [a0, a1, a2, x3, x4, x5, x6] = some (.nx [a0, a1, a2, y3, y4, y5, y6])
  | [], x3, x4, x5, x6, _ => ⟨x3, x4, x5, x6, rfl⟩
  | p :: M, x3, x4, x5, x6, h => by
    obtain ⟨b5, b6, e1⟩ := turnE (Z := Z) (h p (by simp)) (a0 := a0) (a1 := a1) (a2 := a2) (a5 := x5) (a6 := x6)
    obtain ⟨y3, y4, y5, y6, e2⟩ := loopT (Z := Z) (a0 := a0) (a1 := a1) (a2 := a2) M (.fz (.tup (p.1.map .int))) (.fz p.2.d) b5 b6 fun q hq => h q (by simp [hq])
    refine ⟨y3, y4, y5, y6, ?_⟩
    rw [List.map_cons]
    apply EV.lpN
    · walk_at "ev"
    · exact e1
    · exact e2
def s4 : List (List Int × Sy) := [([2, 2], .yes), ([2, 2], .no), ([4, 3, 2], .put 2 1), ([4, 3, 2], .nt (.is 1 2))]
theorem s4_ok : ∀ p ∈ s4, Pr p.1 p.2 := by
  intro p hp
  simp only [s4, List.mem_cons, List.not_mem_nil, or_false] at hp
  rcases hp with rfl | rfl | rfl | rfl <;> exact ⟨by decide, by decide +kernel, by decide, by decide, by decide⟩
theorem loopA {Z : Zs} {ns : List Int} {a3 a4 a5 a6 : T} : ∀ (ks : List D) (M : List (List Int × Sy)) (x2 : T), (∀ d ∈ ks, ∃ k : Int, d = .int k ∧ 0 ≤ k ∧ k < 5) → (∀ p ∈ M, Pr p.1 p.2) → M.length + ks.length < 1000 → ∃ (y2 : T) (M' : List (List Int × Sy)), (∀ p ∈ M', Pr p.1 p.2) ∧ loopD (gdName 2) (L_law_1 Z) ks [.fz (.scr ns), .ls ((M.map fun p => prD p.1 p.2).map .fz), x2, a3, a4, a5, a6] = some (.nx [.fz (.scr ns), .ls ((M'.map fun p => prD p.1 p.2).map .fz), y2, a3, a4, a5, a6])
  | [], M, x2, _, hM, _ => ⟨x2, M, hM, rfl⟩
  | d :: ks, M, x2, h, hM, hl => by
    obtain ⟨k, rfl, k0, k5⟩ := h d (by simp)
    simp only [List.length_cons] at hl
    obtain ⟨l, s, P, hd⟩ := v__law_drawn (ns := ns) (k := k) k0 (by omega)
    obtain ⟨y2, M', g, e2⟩ := loopA (Z := Z) (ns := ns) (a3 := a3) (a4 := a4) (a5 := a5) (a6 := a6) ks (M ++ [(l, s)]) (.fz (.int k)) (fun d hd => h d (by simp [hd])) (fun p hp => by
      rcases List.mem_append.mp hp with q | q
      · exact hM p q
      · rw [List.mem_singleton] at q; subst q; exact P) (by simp only [List.length_append, List.length_cons, List.length_nil]; omega)
    refine ⟨y2, M', g, ?_⟩
    rw [List.map_append] at e2
    have hl2 : (M.map fun p => prD p.1 p.2).length < 1000000 := by rw [List.length_map]; omega
    have hd' : fn__law_drawn [.fz (.scr ns), .fz (.int k), .fz (.int 4)] = some (.ret (.fz (prD l s)), [.fz (.scr ns), .fz (.int k), .fz (.int 4)]) := hd
    have e2' : loopD (gdName 2) (L_law_1 Z) ks [.fz (.scr ns), .ls (((M.map fun p => prD p.1 p.2) ++ [prD l s]).map .fz), .fz (.int k), a3, a4, a5, a6] = some (.nx [.fz (.scr ns), .ls ((M'.map fun p => prD p.1 p.2).map .fz), y2, a3, a4, a5, a6]) := e2
    clear e2 hd
    generalize (M.map fun p => prD p.1 p.2) = MM at *
    generalize (M'.map fun p => prD p.1 p.2) = MM' at *
    generalize prD l s = pp at *
    apply EV.lpN
    · walk_at "ev"
    · unfold L_law_1
      walk_at "ev"
    · exact e2'
theorem true_law : ∀ (K : PySem.W.Frag) (Z : Zs), Fcts K Z → ∀ ns : List Int, ns.length ≤ 63 → ∃ ps', (fn_law Z) [.fz (.scr ns)] = some (.ret (.fz (.bl true)), ps') ∧ ps'.length = 1 := by
  intro K Z f ns _
  obtain ⟨y2, M', g, e1⟩ := loopA (Z := Z) (ns := ns) (a3 := .un) (a4 := .un) (a5 := .un) (a6 := .un) (upto 0 (5 : Int).toNat) s4 .un (fun d hd => by
    unfold upto at hd
    obtain ⟨i, hi, rfl⟩ := List.mem_map.mp hd
    rw [List.mem_range] at hi
    have : i < 5 := hi
    exact ⟨_, rfl, by omega, by omega⟩) s4_ok (by decide)
  obtain ⟨y3, y4, y5, y6, e2⟩ := loopT (Z := Z) (a0 := .fz (.scr ns)) (a1 := .fz (.lst (M'.map fun p => prD p.1 p.2))) (a2 := y2) M' .un .un .un .un g
  have e1' : loopD (gdName 2) (L_law_1 Z) (upto 0 (5 : Int).toNat) [.fz (.scr ns), .ls [.fz (.tup [.tup [.int 2, .int 2], .tup [.str "yes"]]), .fz (.tup [.tup [.int 2, .int 2], .tup [.str "no"]]), .fz (.tup [.tup [.int 4, .int 3, .int 2], .tup [.str "put", .int 2, .int 1]]), .fz (.tup [.tup [.int 4, .int 3, .int 2], .tup [.str "not", .tup [.str "is", .int 1, .int 2]]])], .un, .un, .un, .un, .un] = some (.nx [.fz (.scr ns), .ls ((M'.map fun p => prD p.1 p.2).map .fz), y2, .un, .un, .un, .un]) := e1
  clear e1
  have hd := fzs_data (M'.map fun p => prD p.1 p.2)
  generalize (M'.map fun p => prD p.1 p.2) = MM at *
  refine ⟨[.fz (.scr ns)], ?_, rfl⟩
  apply fe_law
  · unfold b_law
    walk_at "st"
    apply EV.seq
    · apply EV.for_
      · walk_at "ev"
      · exact e1'
    apply EV.seq
    · apply EV.for_
      · apply EV.itL
        apply EV.shO (M := MM)
        · rfl
        · walk_at "set"
      · exact e2
    walk_at "ev"
  walk_at "fin"
end KQ
set_option Elab.async false
set_option linter.all false
set_option maxRecDepth 100000
set_option maxHeartbeats 4000000
namespace KQ
open PySem PySem.Spec PyProof.Rows L2 Q
theorem all_mk {P : Program} {w : World} {K : PySem.W.Frag} {h : Heap} {mg : Str → Option Value} {fa : Addr} (true_law : ∀ (K : PySem.W.Frag) (Z : Zs), Fcts K Z → ∀ ns : List Int, ns.length ≤ 63 → ∃ ps', (fn_law Z) [.fz (.scr ns)] = some (.ret (.fz (.bl true)), ps') ∧ ps'.length = 1)
    (X : K.In h) (G : h.Ns mainGlobals mg) (hfa : mg "law" = some (.ref fa))
    {f_is_number : Addr} {od_is_number an_is_number : Option Addr} {sl_is_number : Array (Option Value)} {oc_is_number kV_is_number dc_is_number pm_is_number cd_is_number ct_is_number : Value} {f_is_below : Addr} {od_is_below an_is_below : Option Addr} {sl_is_below : Array (Option Value)} {oc_is_below kV_is_below dc_is_below pm_is_below cd_is_below ct_is_below : Value} {f_is_shape : Addr} {od_is_shape an_is_shape : Option Addr} {sl_is_shape : Array (Option Value)} {oc_is_shape kV_is_shape dc_is_shape pm_is_shape cd_is_shape ct_is_shape : Value} {f_check_shape : Addr} {od_check_shape an_check_shape : Option Addr} {sl_check_shape : Array (Option Value)} {oc_check_shape kV_check_shape dc_check_shape pm_check_shape cd_check_shape ct_check_shape : Value} {f_is_name : Addr} {od_is_name an_is_name : Option Addr} {sl_is_name : Array (Option Value)} {oc_is_name kV_is_name dc_is_name pm_is_name cd_is_name ct_is_name : Value} {f_is_field_word : Addr} {od_is_field_word an_is_field_word : Option Addr} {sl_is_field_word : Array (Option Value)} {oc_is_field_word kV_is_field_word dc_is_field_word pm_is_field_word cd_is_field_word ct_is_field_word : Value} {f_words_in : Addr} {od_words_in an_words_in : Option Addr} {sl_words_in : Array (Option Value)} {oc_words_in kV_words_in dc_words_in pm_words_in cd_words_in ct_words_in : Value} {f_plain_part : Addr} {od_plain_part an_plain_part : Option Addr} {sl_plain_part : Array (Option Value)} {oc_plain_part kV_plain_part dc_plain_part pm_plain_part cd_plain_part ct_plain_part : Value} {f_open_bracket : Addr} {od_open_bracket an_open_bracket : Option Addr} {sl_open_bracket : Array (Option Value)} {oc_open_bracket kV_open_bracket dc_open_bracket pm_open_bracket cd_open_bracket ct_open_bracket : Value} {f_join_bracket : Addr} {od_join_bracket an_join_bracket : Option Addr} {sl_join_bracket : Array (Option Value)} {oc_join_bracket kV_join_bracket dc_join_bracket pm_join_bracket cd_join_bracket ct_join_bracket : Value} {f_close_bracket : Addr} {od_close_bracket an_close_bracket : Option Addr} {sl_close_bracket : Array (Option Value)} {oc_close_bracket kV_close_bracket dc_close_bracket pm_close_bracket cd_close_bracket ct_close_bracket : Value} {f_parts_in : Addr} {od_parts_in an_parts_in : Option Addr} {sl_parts_in : Array (Option Value)} {oc_parts_in kV_parts_in dc_parts_in pm_parts_in cd_parts_in ct_parts_in : Value} {f_saying_from : Addr} {od_saying_from an_saying_from : Option Addr} {sl_saying_from : Array (Option Value)} {oc_saying_from kV_saying_from dc_saying_from pm_saying_from cd_saying_from ct_saying_from : Value} {f_has_part_form : Addr} {od_has_part_form an_has_part_form : Option Addr} {sl_has_part_form : Array (Option Value)} {oc_has_part_form kV_has_part_form dc_has_part_form pm_has_part_form cd_has_part_form ct_has_part_form : Value} {f_inner_parts : Addr} {od_inner_parts an_inner_parts : Option Addr} {sl_inner_parts : Array (Option Value)} {oc_inner_parts kV_inner_parts dc_inner_parts pm_inner_parts cd_inner_parts ct_inner_parts : Value} {f_is_made_well : Addr} {od_is_made_well an_is_made_well : Option Addr} {sl_is_made_well : Array (Option Value)} {oc_is_made_well kV_is_made_well dc_is_made_well pm_is_made_well cd_is_made_well ct_is_made_well : Value} {f_is_saying : Addr} {od_is_saying an_is_saying : Option Addr} {sl_is_saying : Array (Option Value)} {oc_is_saying kV_is_saying dc_is_saying pm_is_saying cd_is_saying ct_is_saying : Value} {f_check_saying : Addr} {od_check_saying an_check_saying : Option Addr} {sl_check_saying : Array (Option Value)} {oc_check_saying kV_check_saying dc_check_saying pm_check_saying cd_check_saying ct_check_saying : Value} {f_pieces_of : Addr} {od_pieces_of an_pieces_of : Option Addr} {sl_pieces_of : Array (Option Value)} {oc_pieces_of kV_pieces_of dc_pieces_of pm_pieces_of cd_pieces_of ct_pieces_of : Value} {f_shown_saying : Addr} {od_shown_saying an_shown_saying : Option Addr} {sl_shown_saying : Array (Option Value)} {oc_shown_saying kV_shown_saying dc_shown_saying pm_shown_saying cd_shown_saying ct_shown_saying : Value} {f_read_saying : Addr} {od_read_saying an_read_saying : Option Addr} {sl_read_saying : Array (Option Value)} {oc_read_saying kV_read_saying dc_read_saying pm_read_saying cd_read_saying ct_read_saying : Value} {f__law_mixed : Addr} {od__law_mixed an__law_mixed : Option Addr} {sl__law_mixed : Array (Option Value)} {oc__law_mixed kV__law_mixed dc__law_mixed pm__law_mixed cd__law_mixed ct__law_mixed : Value} {f__law_cell : Addr} {od__law_cell an__law_cell : Option Addr} {sl__law_cell : Array (Option Value)} {oc__law_cell kV__law_cell dc__law_cell pm__law_cell cd__law_cell ct__law_cell : Value} {f__law_take : Addr} {od__law_take an__law_take : Option Addr} {sl__law_take : Array (Option Value)} {oc__law_take kV__law_take dc__law_take pm__law_take cd__law_take ct__law_take : Value} {f__law_shape : Addr} {od__law_shape an__law_shape : Option Addr} {sl__law_shape : Array (Option Value)} {oc__law_shape kV__law_shape dc__law_shape pm__law_shape cd__law_shape ct__law_shape : Value} {f__law_named : Addr} {od__law_named an__law_named : Option Addr} {sl__law_named : Array (Option Value)} {oc__law_named kV__law_named dc__law_named pm__law_named cd__law_named ct__law_named : Value} {f__law_test : Addr} {od__law_test an__law_test : Option Addr} {sl__law_test : Array (Option Value)} {oc__law_test kV__law_test dc__law_test pm__law_test cd__law_test ct__law_test : Value} {f__law_saying : Addr} {od__law_saying an__law_saying : Option Addr} {sl__law_saying : Array (Option Value)} {oc__law_saying kV__law_saying dc__law_saying pm__law_saying cd__law_saying ct__law_saying : Value} {f__law_drawn : Addr} {od__law_drawn an__law_drawn : Option Addr} {sl__law_drawn : Array (Option Value)} {oc__law_drawn kV__law_drawn dc__law_drawn pm__law_drawn cd__law_drawn ct__law_drawn : Value} {f__law_text : Addr} {od__law_text an__law_text : Option Addr} {sl__law_text : Array (Option Value)} {oc__law_text kV__law_text dc__law_text pm__law_text cd__law_text ct__law_text : Value} {f_law : Addr} {od_law an_law : Option Addr} {sl_law : Array (Option Value)} {oc_law kV_law dc_law pm_law cd_law ct_law : Value} {cc_is_name tt_is_name : Addr} {ce_is_name : Value} {cdd_is_name : Option Addr} {cvs_is_name : Array Value} {csl_is_name : Array (Option Value)} {C_FIELD_MARKS : Addr} {es_FIELD_MARKS : Array DictEntry} {n_FIELD_MARKS : Nat} {t_FIELD_SIGNS : Tok} {C_FIELD_WORDS : Addr} {dd_FIELD_WORDS : Option Addr} {sl_FIELD_WORDS : Array (Option Value)} {its_FIELD_WORDS : Array Value} {n_FIELD_WORDS : Nat} {t_FIGURES : Tok} {C_JOINTS : Addr} {es_JOINTS : Array DictEntry} {n_JOINTS : Nat} {C_LENGTHS : Addr} {es_LENGTHS : Array DictEntry} {n_LENGTHS : Nat} {t_LONGEST_NAME : Tok} {t_MOST_FIELDS : Tok} {t_MOST_LETTERS : Tok} {t_MOST_NOTES : Tok} {t_MOST_OPEN : Tok} {t_MOST_VALUES : Tok} {C_NO_NAMES : Addr} {dd_NO_NAMES : Option Addr} {sl_NO_NAMES : Array (Option Value)} {its_NO_NAMES : Array Value} {n_NO_NAMES : Nat} {C_OPENINGS : Addr} {es_OPENINGS : Array DictEntry} {n_OPENINGS : Nat} {t_SHORTEST_NAME : Tok} {C_SINGLE_WORDS : Addr} {dd_SINGLE_WORDS : Option Addr} {sl_SINGLE_WORDS : Array (Option Value)} {its_SINGLE_WORDS : Array Value} {n_SINGLE_WORDS : Nat} {t_SMALL_LETTERS : Tok} {C_TEST_WORDS : Addr} {dd_TEST_WORDS : Option Addr} {sl_TEST_WORDS : Array (Option Value)} {its_TEST_WORDS : Array Value} {n_TEST_WORDS : Nat} {t_UNDECIDED : Tok} {C_SayError : Addr} {C_NoShape : Addr} {C_NoSaying : Addr} {C_NoText : Addr}
    (a_is_number : PySem.W.nsIn K mainGlobals "is_number" = some (some (.ref f_is_number)))
    (l_is_number : K.lookup f_is_number = some ⟨oc_is_number, od_is_number, .func (PySem.W.fnOf "is_number" "is_number" (defArgs s_is_number) (defBody s_is_number) (defScope s_is_number) .none kV_is_number dc_is_number pm_is_number an_is_number cd_is_number ct_is_number), sl_is_number⟩)
    (c_is_number : PySem.W.codeIn K cd_is_number "is_number" = true)
    (k_is_number : PySem.W.keepIn K (.ref f_is_number) = true)
    (a_is_below : PySem.W.nsIn K mainGlobals "is_below" = some (some (.ref f_is_below)))
    (l_is_below : K.lookup f_is_below = some ⟨oc_is_below, od_is_below, .func (PySem.W.fnOf "is_below" "is_below" (defArgs s_is_below) (defBody s_is_below) (defScope s_is_below) .none kV_is_below dc_is_below pm_is_below an_is_below cd_is_below ct_is_below), sl_is_below⟩)
    (c_is_below : PySem.W.codeIn K cd_is_below "is_below" = true)
    (k_is_below : PySem.W.keepIn K (.ref f_is_below) = true)
    (a_is_shape : PySem.W.nsIn K mainGlobals "is_shape" = some (some (.ref f_is_shape)))
    (l_is_shape : K.lookup f_is_shape = some ⟨oc_is_shape, od_is_shape, .func (PySem.W.fnOf "is_shape" "is_shape" (defArgs s_is_shape) (defBody s_is_shape) (defScope s_is_shape) .none kV_is_shape dc_is_shape pm_is_shape an_is_shape cd_is_shape ct_is_shape), sl_is_shape⟩)
    (c_is_shape : PySem.W.codeIn K cd_is_shape "is_shape" = true)
    (k_is_shape : PySem.W.keepIn K (.ref f_is_shape) = true)
    (a_check_shape : PySem.W.nsIn K mainGlobals "check_shape" = some (some (.ref f_check_shape)))
    (l_check_shape : K.lookup f_check_shape = some ⟨oc_check_shape, od_check_shape, .func (PySem.W.fnOf "check_shape" "check_shape" (defArgs s_check_shape) (defBody s_check_shape) (defScope s_check_shape) .none kV_check_shape dc_check_shape pm_check_shape an_check_shape cd_check_shape ct_check_shape), sl_check_shape⟩)
    (c_check_shape : PySem.W.codeIn K cd_check_shape "check_shape" = true)
    (k_check_shape : PySem.W.keepIn K (.ref f_check_shape) = true)
    (a_is_name : PySem.W.nsIn K mainGlobals "is_name" = some (some (.ref f_is_name)))
    (l_is_name : K.lookup f_is_name = some ⟨oc_is_name, od_is_name, .func (PySem.W.fnOf "is_name" "is_name" (defArgs s_is_name) (defBody s_is_name) (defScope s_is_name) .none kV_is_name dc_is_name pm_is_name an_is_name cd_is_name ct_is_name), sl_is_name⟩)
    (c_is_name : PySem.W.codeIn K cd_is_name "is_name" = true)
    (k_is_name : PySem.W.keepIn K (.ref f_is_name) = true)
    (a_is_field_word : PySem.W.nsIn K mainGlobals "is_field_word" = some (some (.ref f_is_field_word)))
    (l_is_field_word : K.lookup f_is_field_word = some ⟨oc_is_field_word, od_is_field_word, .func (PySem.W.fnOf "is_field_word" "is_field_word" (defArgs s_is_field_word) (defBody s_is_field_word) (defScope s_is_field_word) .none kV_is_field_word dc_is_field_word pm_is_field_word an_is_field_word cd_is_field_word ct_is_field_word), sl_is_field_word⟩)
    (c_is_field_word : PySem.W.codeIn K cd_is_field_word "is_field_word" = true)
    (k_is_field_word : PySem.W.keepIn K (.ref f_is_field_word) = true)
    (a_words_in : PySem.W.nsIn K mainGlobals "words_in" = some (some (.ref f_words_in)))
    (l_words_in : K.lookup f_words_in = some ⟨oc_words_in, od_words_in, .func (PySem.W.fnOf "words_in" "words_in" (defArgs s_words_in) (defBody s_words_in) (defScope s_words_in) .none kV_words_in dc_words_in pm_words_in an_words_in cd_words_in ct_words_in), sl_words_in⟩)
    (c_words_in : PySem.W.codeIn K cd_words_in "words_in" = true)
    (k_words_in : PySem.W.keepIn K (.ref f_words_in) = true)
    (a_plain_part : PySem.W.nsIn K mainGlobals "plain_part" = some (some (.ref f_plain_part)))
    (l_plain_part : K.lookup f_plain_part = some ⟨oc_plain_part, od_plain_part, .func (PySem.W.fnOf "plain_part" "plain_part" (defArgs s_plain_part) (defBody s_plain_part) (defScope s_plain_part) .none kV_plain_part dc_plain_part pm_plain_part an_plain_part cd_plain_part ct_plain_part), sl_plain_part⟩)
    (c_plain_part : PySem.W.codeIn K cd_plain_part "plain_part" = true)
    (k_plain_part : PySem.W.keepIn K (.ref f_plain_part) = true)
    (a_open_bracket : PySem.W.nsIn K mainGlobals "open_bracket" = some (some (.ref f_open_bracket)))
    (l_open_bracket : K.lookup f_open_bracket = some ⟨oc_open_bracket, od_open_bracket, .func (PySem.W.fnOf "open_bracket" "open_bracket" (defArgs s_open_bracket) (defBody s_open_bracket) (defScope s_open_bracket) .none kV_open_bracket dc_open_bracket pm_open_bracket an_open_bracket cd_open_bracket ct_open_bracket), sl_open_bracket⟩)
    (c_open_bracket : PySem.W.codeIn K cd_open_bracket "open_bracket" = true)
    (k_open_bracket : PySem.W.keepIn K (.ref f_open_bracket) = true)
    (a_join_bracket : PySem.W.nsIn K mainGlobals "join_bracket" = some (some (.ref f_join_bracket)))
    (l_join_bracket : K.lookup f_join_bracket = some ⟨oc_join_bracket, od_join_bracket, .func (PySem.W.fnOf "join_bracket" "join_bracket" (defArgs s_join_bracket) (defBody s_join_bracket) (defScope s_join_bracket) .none kV_join_bracket dc_join_bracket pm_join_bracket an_join_bracket cd_join_bracket ct_join_bracket), sl_join_bracket⟩)
    (c_join_bracket : PySem.W.codeIn K cd_join_bracket "join_bracket" = true)
    (k_join_bracket : PySem.W.keepIn K (.ref f_join_bracket) = true)
    (a_close_bracket : PySem.W.nsIn K mainGlobals "close_bracket" = some (some (.ref f_close_bracket)))
    (l_close_bracket : K.lookup f_close_bracket = some ⟨oc_close_bracket, od_close_bracket, .func (PySem.W.fnOf "close_bracket" "close_bracket" (defArgs s_close_bracket) (defBody s_close_bracket) (defScope s_close_bracket) .none kV_close_bracket dc_close_bracket pm_close_bracket an_close_bracket cd_close_bracket ct_close_bracket), sl_close_bracket⟩)
    (c_close_bracket : PySem.W.codeIn K cd_close_bracket "close_bracket" = true)
    (k_close_bracket : PySem.W.keepIn K (.ref f_close_bracket) = true)
    (a_parts_in : PySem.W.nsIn K mainGlobals "parts_in" = some (some (.ref f_parts_in)))
    (l_parts_in : K.lookup f_parts_in = some ⟨oc_parts_in, od_parts_in, .func (PySem.W.fnOf "parts_in" "parts_in" (defArgs s_parts_in) (defBody s_parts_in) (defScope s_parts_in) .none kV_parts_in dc_parts_in pm_parts_in an_parts_in cd_parts_in ct_parts_in), sl_parts_in⟩)
    (c_parts_in : PySem.W.codeIn K cd_parts_in "parts_in" = true)
    (k_parts_in : PySem.W.keepIn K (.ref f_parts_in) = true)
    (a_saying_from : PySem.W.nsIn K mainGlobals "saying_from" = some (some (.ref f_saying_from)))
    (l_saying_from : K.lookup f_saying_from = some ⟨oc_saying_from, od_saying_from, .func (PySem.W.fnOf "saying_from" "saying_from" (defArgs s_saying_from) (defBody s_saying_from) (defScope s_saying_from) .none kV_saying_from dc_saying_from pm_saying_from an_saying_from cd_saying_from ct_saying_from), sl_saying_from⟩)
    (c_saying_from : PySem.W.codeIn K cd_saying_from "saying_from" = true)
    (k_saying_from : PySem.W.keepIn K (.ref f_saying_from) = true)
    (a_has_part_form : PySem.W.nsIn K mainGlobals "has_part_form" = some (some (.ref f_has_part_form)))
    (l_has_part_form : K.lookup f_has_part_form = some ⟨oc_has_part_form, od_has_part_form, .func (PySem.W.fnOf "has_part_form" "has_part_form" (defArgs s_has_part_form) (defBody s_has_part_form) (defScope s_has_part_form) .none kV_has_part_form dc_has_part_form pm_has_part_form an_has_part_form cd_has_part_form ct_has_part_form), sl_has_part_form⟩)
    (c_has_part_form : PySem.W.codeIn K cd_has_part_form "has_part_form" = true)
    (k_has_part_form : PySem.W.keepIn K (.ref f_has_part_form) = true)
    (a_inner_parts : PySem.W.nsIn K mainGlobals "inner_parts" = some (some (.ref f_inner_parts)))
    (l_inner_parts : K.lookup f_inner_parts = some ⟨oc_inner_parts, od_inner_parts, .func (PySem.W.fnOf "inner_parts" "inner_parts" (defArgs s_inner_parts) (defBody s_inner_parts) (defScope s_inner_parts) .none kV_inner_parts dc_inner_parts pm_inner_parts an_inner_parts cd_inner_parts ct_inner_parts), sl_inner_parts⟩)
    (c_inner_parts : PySem.W.codeIn K cd_inner_parts "inner_parts" = true)
    (k_inner_parts : PySem.W.keepIn K (.ref f_inner_parts) = true)
    (a_is_made_well : PySem.W.nsIn K mainGlobals "is_made_well" = some (some (.ref f_is_made_well)))
    (l_is_made_well : K.lookup f_is_made_well = some ⟨oc_is_made_well, od_is_made_well, .func (PySem.W.fnOf "is_made_well" "is_made_well" (defArgs s_is_made_well) (defBody s_is_made_well) (defScope s_is_made_well) .none kV_is_made_well dc_is_made_well pm_is_made_well an_is_made_well cd_is_made_well ct_is_made_well), sl_is_made_well⟩)
    (c_is_made_well : PySem.W.codeIn K cd_is_made_well "is_made_well" = true)
    (k_is_made_well : PySem.W.keepIn K (.ref f_is_made_well) = true)
    (a_is_saying : PySem.W.nsIn K mainGlobals "is_saying" = some (some (.ref f_is_saying)))
    (l_is_saying : K.lookup f_is_saying = some ⟨oc_is_saying, od_is_saying, .func (PySem.W.fnOf "is_saying" "is_saying" (defArgs s_is_saying) (defBody s_is_saying) (defScope s_is_saying) .none kV_is_saying dc_is_saying pm_is_saying an_is_saying cd_is_saying ct_is_saying), sl_is_saying⟩)
    (c_is_saying : PySem.W.codeIn K cd_is_saying "is_saying" = true)
    (k_is_saying : PySem.W.keepIn K (.ref f_is_saying) = true)
    (a_check_saying : PySem.W.nsIn K mainGlobals "check_saying" = some (some (.ref f_check_saying)))
    (l_check_saying : K.lookup f_check_saying = some ⟨oc_check_saying, od_check_saying, .func (PySem.W.fnOf "check_saying" "check_saying" (defArgs s_check_saying) (defBody s_check_saying) (defScope s_check_saying) .none kV_check_saying dc_check_saying pm_check_saying an_check_saying cd_check_saying ct_check_saying), sl_check_saying⟩)
    (c_check_saying : PySem.W.codeIn K cd_check_saying "check_saying" = true)
    (k_check_saying : PySem.W.keepIn K (.ref f_check_saying) = true)
    (a_pieces_of : PySem.W.nsIn K mainGlobals "pieces_of" = some (some (.ref f_pieces_of)))
    (l_pieces_of : K.lookup f_pieces_of = some ⟨oc_pieces_of, od_pieces_of, .func (PySem.W.fnOf "pieces_of" "pieces_of" (defArgs s_pieces_of) (defBody s_pieces_of) (defScope s_pieces_of) .none kV_pieces_of dc_pieces_of pm_pieces_of an_pieces_of cd_pieces_of ct_pieces_of), sl_pieces_of⟩)
    (c_pieces_of : PySem.W.codeIn K cd_pieces_of "pieces_of" = true)
    (k_pieces_of : PySem.W.keepIn K (.ref f_pieces_of) = true)
    (a_shown_saying : PySem.W.nsIn K mainGlobals "shown_saying" = some (some (.ref f_shown_saying)))
    (l_shown_saying : K.lookup f_shown_saying = some ⟨oc_shown_saying, od_shown_saying, .func (PySem.W.fnOf "shown_saying" "shown_saying" (defArgs s_shown_saying) (defBody s_shown_saying) (defScope s_shown_saying) .none kV_shown_saying dc_shown_saying pm_shown_saying an_shown_saying cd_shown_saying ct_shown_saying), sl_shown_saying⟩)
    (c_shown_saying : PySem.W.codeIn K cd_shown_saying "shown_saying" = true)
    (k_shown_saying : PySem.W.keepIn K (.ref f_shown_saying) = true)
    (a_read_saying : PySem.W.nsIn K mainGlobals "read_saying" = some (some (.ref f_read_saying)))
    (l_read_saying : K.lookup f_read_saying = some ⟨oc_read_saying, od_read_saying, .func (PySem.W.fnOf "read_saying" "read_saying" (defArgs s_read_saying) (defBody s_read_saying) (defScope s_read_saying) .none kV_read_saying dc_read_saying pm_read_saying an_read_saying cd_read_saying ct_read_saying), sl_read_saying⟩)
    (c_read_saying : PySem.W.codeIn K cd_read_saying "read_saying" = true)
    (k_read_saying : PySem.W.keepIn K (.ref f_read_saying) = true)
    (a__law_mixed : PySem.W.nsIn K mainGlobals "_law_mixed" = some (some (.ref f__law_mixed)))
    (l__law_mixed : K.lookup f__law_mixed = some ⟨oc__law_mixed, od__law_mixed, .func (PySem.W.fnOf "_law_mixed" "_law_mixed" (defArgs s__law_mixed) (defBody s__law_mixed) (defScope s__law_mixed) .none kV__law_mixed dc__law_mixed pm__law_mixed an__law_mixed cd__law_mixed ct__law_mixed), sl__law_mixed⟩)
    (c__law_mixed : PySem.W.codeIn K cd__law_mixed "_law_mixed" = true)
    (k__law_mixed : PySem.W.keepIn K (.ref f__law_mixed) = true)
    (a__law_cell : PySem.W.nsIn K mainGlobals "_law_cell" = some (some (.ref f__law_cell)))
    (l__law_cell : K.lookup f__law_cell = some ⟨oc__law_cell, od__law_cell, .func (PySem.W.fnOf "_law_cell" "_law_cell" (defArgs s__law_cell) (defBody s__law_cell) (defScope s__law_cell) .none kV__law_cell dc__law_cell pm__law_cell an__law_cell cd__law_cell ct__law_cell), sl__law_cell⟩)
    (c__law_cell : PySem.W.codeIn K cd__law_cell "_law_cell" = true)
    (k__law_cell : PySem.W.keepIn K (.ref f__law_cell) = true)
    (a__law_take : PySem.W.nsIn K mainGlobals "_law_take" = some (some (.ref f__law_take)))
    (l__law_take : K.lookup f__law_take = some ⟨oc__law_take, od__law_take, .func (PySem.W.fnOf "_law_take" "_law_take" (defArgs s__law_take) (defBody s__law_take) (defScope s__law_take) .none kV__law_take dc__law_take pm__law_take an__law_take cd__law_take ct__law_take), sl__law_take⟩)
    (c__law_take : PySem.W.codeIn K cd__law_take "_law_take" = true)
    (k__law_take : PySem.W.keepIn K (.ref f__law_take) = true)
    (a__law_shape : PySem.W.nsIn K mainGlobals "_law_shape" = some (some (.ref f__law_shape)))
    (l__law_shape : K.lookup f__law_shape = some ⟨oc__law_shape, od__law_shape, .func (PySem.W.fnOf "_law_shape" "_law_shape" (defArgs s__law_shape) (defBody s__law_shape) (defScope s__law_shape) .none kV__law_shape dc__law_shape pm__law_shape an__law_shape cd__law_shape ct__law_shape), sl__law_shape⟩)
    (c__law_shape : PySem.W.codeIn K cd__law_shape "_law_shape" = true)
    (k__law_shape : PySem.W.keepIn K (.ref f__law_shape) = true)
    (a__law_named : PySem.W.nsIn K mainGlobals "_law_named" = some (some (.ref f__law_named)))
    (l__law_named : K.lookup f__law_named = some ⟨oc__law_named, od__law_named, .func (PySem.W.fnOf "_law_named" "_law_named" (defArgs s__law_named) (defBody s__law_named) (defScope s__law_named) .none kV__law_named dc__law_named pm__law_named an__law_named cd__law_named ct__law_named), sl__law_named⟩)
    (c__law_named : PySem.W.codeIn K cd__law_named "_law_named" = true)
    (k__law_named : PySem.W.keepIn K (.ref f__law_named) = true)
    (a__law_test : PySem.W.nsIn K mainGlobals "_law_test" = some (some (.ref f__law_test)))
    (l__law_test : K.lookup f__law_test = some ⟨oc__law_test, od__law_test, .func (PySem.W.fnOf "_law_test" "_law_test" (defArgs s__law_test) (defBody s__law_test) (defScope s__law_test) .none kV__law_test dc__law_test pm__law_test an__law_test cd__law_test ct__law_test), sl__law_test⟩)
    (c__law_test : PySem.W.codeIn K cd__law_test "_law_test" = true)
    (k__law_test : PySem.W.keepIn K (.ref f__law_test) = true)
    (a__law_saying : PySem.W.nsIn K mainGlobals "_law_saying" = some (some (.ref f__law_saying)))
    (l__law_saying : K.lookup f__law_saying = some ⟨oc__law_saying, od__law_saying, .func (PySem.W.fnOf "_law_saying" "_law_saying" (defArgs s__law_saying) (defBody s__law_saying) (defScope s__law_saying) .none kV__law_saying dc__law_saying pm__law_saying an__law_saying cd__law_saying ct__law_saying), sl__law_saying⟩)
    (c__law_saying : PySem.W.codeIn K cd__law_saying "_law_saying" = true)
    (k__law_saying : PySem.W.keepIn K (.ref f__law_saying) = true)
    (a__law_drawn : PySem.W.nsIn K mainGlobals "_law_drawn" = some (some (.ref f__law_drawn)))
    (l__law_drawn : K.lookup f__law_drawn = some ⟨oc__law_drawn, od__law_drawn, .func (PySem.W.fnOf "_law_drawn" "_law_drawn" (defArgs s__law_drawn) (defBody s__law_drawn) (defScope s__law_drawn) .none kV__law_drawn dc__law_drawn pm__law_drawn an__law_drawn cd__law_drawn ct__law_drawn), sl__law_drawn⟩)
    (c__law_drawn : PySem.W.codeIn K cd__law_drawn "_law_drawn" = true)
    (k__law_drawn : PySem.W.keepIn K (.ref f__law_drawn) = true)
    (a__law_text : PySem.W.nsIn K mainGlobals "_law_text" = some (some (.ref f__law_text)))
    (l__law_text : K.lookup f__law_text = some ⟨oc__law_text, od__law_text, .func (PySem.W.fnOf "_law_text" "_law_text" (defArgs s__law_text) (defBody s__law_text) (defScope s__law_text) .none kV__law_text dc__law_text pm__law_text an__law_text cd__law_text ct__law_text), sl__law_text⟩)
    (c__law_text : PySem.W.codeIn K cd__law_text "_law_text" = true)
    (k__law_text : PySem.W.keepIn K (.ref f__law_text) = true)
    (a_law : PySem.W.nsIn K mainGlobals "law" = some (some (.ref f_law)))
    (l_law : K.lookup f_law = some ⟨oc_law, od_law, .func (PySem.W.fnOf "law" "law" (defArgs s_law) (defBody s_law) (defScope s_law) .none kV_law dc_law pm_law an_law cd_law ct_law), sl_law⟩)
    (c_law : PySem.W.codeIn K cd_law "law" = true)
    (k_law : PySem.W.keepIn K (.ref f_law) = true)
    (qc_is_name : cd_is_name = .ref cc_is_name)
    (lc_is_name : K.lookup cc_is_name = some ⟨ce_is_name, cdd_is_name, .fields cvs_is_name, csl_is_name⟩)
    (qt_is_name : cvs_is_name[11]? = some (.ref tt_is_name))
    (nk_is_name : K.lookup tt_is_name = none)
    (tb_is_name : TabOf K mg h "is_name")
    (z_all : PySem.W.nsIn K mainGlobals "all" = some none)
    (z_bool : PySem.W.nsIn K mainGlobals "bool" = some none)
    (z_int : PySem.W.nsIn K mainGlobals "int" = some none)
    (z_isinstance : PySem.W.nsIn K mainGlobals "isinstance" = some none)
    (z_len : PySem.W.nsIn K mainGlobals "len" = some none)
    (z_min : PySem.W.nsIn K mainGlobals "min" = some none)
    (z_range : PySem.W.nsIn K mainGlobals "range" = some none)
    (z_repr : PySem.W.nsIn K mainGlobals "repr" = some none)
    (z_str : PySem.W.nsIn K mainGlobals "str" = some none)
    (z_tuple : PySem.W.nsIn K mainGlobals "tuple" = some none)
    (g_FIELD_MARKS : PySem.W.nsIn K mainGlobals "FIELD_MARKS" = some (some (.ref C_FIELD_MARKS)))
    (l_FIELD_MARKS : K.lookup C_FIELD_MARKS = some ⟨.type "dict", none, .dict es_FIELD_MARKS n_FIELD_MARKS, #[]⟩)
    (v_FIELD_MARKS : PySem.W.KeysLit w.params es_FIELD_MARKS.toList ∧ (C_FIELD_MARKS == sysModules) = false ∧ EntsSS es_FIELD_MARKS.toList t_FIELD_MARKS)
    (q_FIELD_SIGNS : PySem.W.nsIn K mainGlobals "FIELD_SIGNS" = some (some (.str "abc" t_FIELD_SIGNS)))
    (g_FIELD_WORDS : PySem.W.nsIn K mainGlobals "FIELD_WORDS" = some (some (.ref C_FIELD_WORDS)))
    (l_FIELD_WORDS : K.lookup C_FIELD_WORDS = some ⟨.type "tuple", dd_FIELD_WORDS, .seq its_FIELD_WORDS n_FIELD_WORDS, sl_FIELD_WORDS⟩)
    (y_FIELD_WORDS : its_FIELD_WORDS.size ≤ 1000 ∧ strsAre its_FIELD_WORDS.toList t_FIELD_WORDS)
    (q_FIGURES : PySem.W.nsIn K mainGlobals "FIGURES" = some (some (.str "0123456789" t_FIGURES)))
    (g_JOINTS : PySem.W.nsIn K mainGlobals "JOINTS" = some (some (.ref C_JOINTS)))
    (l_JOINTS : K.lookup C_JOINTS = some ⟨.type "dict", none, .dict es_JOINTS n_JOINTS, #[]⟩)
    (v_JOINTS : PySem.W.KeysLit w.params es_JOINTS.toList ∧ (C_JOINTS == sysModules) = false ∧ EntsSS es_JOINTS.toList t_JOINTS)
    (g_LENGTHS : PySem.W.nsIn K mainGlobals "LENGTHS" = some (some (.ref C_LENGTHS)))
    (l_LENGTHS : K.lookup C_LENGTHS = some ⟨.type "dict", none, .dict es_LENGTHS n_LENGTHS, #[]⟩)
    (v_LENGTHS : PySem.W.KeysLit w.params es_LENGTHS.toList ∧ (C_LENGTHS == sysModules) = false ∧ EntsAre es_LENGTHS.toList t_LENGTHS)
    (q_LONGEST_NAME : PySem.W.nsIn K mainGlobals "LONGEST_NAME" = some (some (.int (8) t_LONGEST_NAME)))
    (q_MOST_FIELDS : PySem.W.nsIn K mainGlobals "MOST_FIELDS" = some (some (.int (3) t_MOST_FIELDS)))
    (q_MOST_LETTERS : PySem.W.nsIn K mainGlobals "MOST_LETTERS" = some (some (.int (27) t_MOST_LETTERS)))
    (q_MOST_NOTES : PySem.W.nsIn K mainGlobals "MOST_NOTES" = some (some (.int (5) t_MOST_NOTES)))
    (q_MOST_OPEN : PySem.W.nsIn K mainGlobals "MOST_OPEN" = some (some (.int (40) t_MOST_OPEN)))
    (q_MOST_VALUES : PySem.W.nsIn K mainGlobals "MOST_VALUES" = some (some (.int (4) t_MOST_VALUES)))
    (g_NO_NAMES : PySem.W.nsIn K mainGlobals "NO_NAMES" = some (some (.ref C_NO_NAMES)))
    (l_NO_NAMES : K.lookup C_NO_NAMES = some ⟨.type "tuple", dd_NO_NAMES, .seq its_NO_NAMES n_NO_NAMES, sl_NO_NAMES⟩)
    (y_NO_NAMES : its_NO_NAMES.size ≤ 1000 ∧ strsAre its_NO_NAMES.toList t_NO_NAMES)
    (g_OPENINGS : PySem.W.nsIn K mainGlobals "OPENINGS" = some (some (.ref C_OPENINGS)))
    (l_OPENINGS : K.lookup C_OPENINGS = some ⟨.type "dict", none, .dict es_OPENINGS n_OPENINGS, #[]⟩)
    (v_OPENINGS : PySem.W.KeysLit w.params es_OPENINGS.toList ∧ (C_OPENINGS == sysModules) = false ∧ EntsSS es_OPENINGS.toList t_OPENINGS)
    (q_SHORTEST_NAME : PySem.W.nsIn K mainGlobals "SHORTEST_NAME" = some (some (.int (2) t_SHORTEST_NAME)))
    (g_SINGLE_WORDS : PySem.W.nsIn K mainGlobals "SINGLE_WORDS" = some (some (.ref C_SINGLE_WORDS)))
    (l_SINGLE_WORDS : K.lookup C_SINGLE_WORDS = some ⟨.type "tuple", dd_SINGLE_WORDS, .seq its_SINGLE_WORDS n_SINGLE_WORDS, sl_SINGLE_WORDS⟩)
    (y_SINGLE_WORDS : its_SINGLE_WORDS.size ≤ 1000 ∧ strsAre its_SINGLE_WORDS.toList t_SINGLE_WORDS)
    (q_SMALL_LETTERS : PySem.W.nsIn K mainGlobals "SMALL_LETTERS" = some (some (.str "abcdefghijklmnopqrstuvwxyz" t_SMALL_LETTERS)))
    (g_TEST_WORDS : PySem.W.nsIn K mainGlobals "TEST_WORDS" = some (some (.ref C_TEST_WORDS)))
    (l_TEST_WORDS : K.lookup C_TEST_WORDS = some ⟨.type "tuple", dd_TEST_WORDS, .seq its_TEST_WORDS n_TEST_WORDS, sl_TEST_WORDS⟩)
    (y_TEST_WORDS : its_TEST_WORDS.size ≤ 1000 ∧ strsAre its_TEST_WORDS.toList t_TEST_WORDS)
    (q_UNDECIDED : PySem.W.nsIn K mainGlobals "UNDECIDED" = some (some (.str "(" t_UNDECIDED)))
    (g_SayError : PySem.W.nsIn K mainGlobals "SayError" = some (some (.ref C_SayError)))
    (g_NoShape : PySem.W.nsIn K mainGlobals "NoShape" = some (some (.ref C_NoShape)))
    (g_NoSaying : PySem.W.nsIn K mainGlobals "NoSaying" = some (some (.ref C_NoSaying)))
    (g_NoText : PySem.W.nsIn K mainGlobals "NoText" = some (some (.ref C_NoText)))
    (x_NoSaying : PySem.W.excIn K C_NoSaying [.type "ValueError", .type "Exception", .type "BaseException", .type "object"] "ValueError.__new__" = true)
    (p_NoSaying : PySem.W.keepIn K (.ref C_NoSaying) = true)
    (u_NoSaying : PySem.W.subIn K (.ref C_NoSaying) (.type "BaseException") = some true)
    (t_NoSaying : PySem.W.typeIn K (.ref C_NoSaying) = some (.type "type"))
    (x_NoShape : PySem.W.excIn K C_NoShape [.type "ValueError", .type "Exception", .type "BaseException", .type "object"] "ValueError.__new__" = true)
    (p_NoShape : PySem.W.keepIn K (.ref C_NoShape) = true)
    (u_NoShape : PySem.W.subIn K (.ref C_NoShape) (.type "BaseException") = some true)
    (t_NoShape : PySem.W.typeIn K (.ref C_NoShape) = some (.type "type"))
    (x_NoText : PySem.W.excIn K C_NoText [.type "ValueError", .type "Exception", .type "BaseException", .type "object"] "ValueError.__new__" = true)
    (p_NoText : PySem.W.keepIn K (.ref C_NoText) = true)
    (u_NoText : PySem.W.subIn K (.ref C_NoText) (.type "BaseException") = some true)
    (t_NoText : PySem.W.typeIn K (.ref C_NoText) = some (.type "type")) :
    ∃ (fd : FuncData) (cs : List (Addr × Addr)) (sp : Sp), (∀ (s : Shared) (v : Value), BindsTo s fd ⟨[v], []⟩ [("_law_script", v)]) ∧ (∀ p ∈ cs, h.get? p.2 = some tab0 ∧ K.lookup p.2 = none ∧ PySem.W.CodeHd h p.1 p.2) ∧
      (∀ base : Heap, K.In base → base.Ns mainGlobals mg → (∀ p ∈ cs, GxR.TabB base mg p.1 p.2) → FnG P w K mg base (FU + 8) fa fd ["_law_script"] sp) ∧
      ∀ (H : Hp) (a : Addr) (ns : List Int), ns.length ≤ 63 → (∀ p ∈ cs, H p.2 = some (.tbl #[])) → SqL K H a (ns.map V.int) → sp [.ref a] H (fun v _ => v = .bl true) fun _ _ _ => False := by
  have e := hfa.symm.trans (PySem.W.mg_of X G a_law)
  cases e
  let Z : Zs := ⟨C_SayError, C_NoShape, C_NoSaying, C_NoText, C_FIELD_MARKS, C_FIELD_WORDS, C_JOINTS, C_LENGTHS, C_NO_NAMES, C_OPENINGS, C_SINGLE_WORDS, C_TEST_WORDS, cc_is_name, tt_is_name⟩
  let _ : TbS := ⟨fun b => b ∈ [tt_is_name], keyH w, fun a L => L2.SetTO P w a L, fun a o L => DNw P w a o L⟩
  have T : Txt K mg Z w P := { hk := rfl, sn := rfl, b_all := PySem.W.mg_none_of X G z_all, b_bool := PySem.W.mg_none_of X G z_bool, b_int := PySem.W.mg_none_of X G z_int, b_isinstance := PySem.W.mg_none_of X G z_isinstance, b_len := PySem.W.mg_none_of X G z_len, b_min := PySem.W.mg_none_of X G z_min, b_range := PySem.W.mg_none_of X G z_range, b_repr := PySem.W.mg_none_of X G z_repr, b_str := PySem.W.mg_none_of X G z_str, b_tuple := PySem.W.mg_none_of X G z_tuple, k_FIELD_SIGNS := by unfold tok_FIELD_SIGNS; rw [PySem.W.mg_of X G q_FIELD_SIGNS], k_FIGURES := by unfold tok_FIGURES; rw [PySem.W.mg_of X G q_FIGURES], k_LONGEST_NAME := by unfold tok_LONGEST_NAME; rw [PySem.W.mg_of X G q_LONGEST_NAME], k_MOST_FIELDS := by unfold tok_MOST_FIELDS; rw [PySem.W.mg_of X G q_MOST_FIELDS], k_MOST_LETTERS := by unfold tok_MOST_LETTERS; rw [PySem.W.mg_of X G q_MOST_LETTERS], k_MOST_NOTES := by unfold tok_MOST_NOTES; rw [PySem.W.mg_of X G q_MOST_NOTES], k_MOST_OPEN := by unfold tok_MOST_OPEN; rw [PySem.W.mg_of X G q_MOST_OPEN], k_MOST_VALUES := by unfold tok_MOST_VALUES; rw [PySem.W.mg_of X G q_MOST_VALUES], k_SHORTEST_NAME := by unfold tok_SHORTEST_NAME; rw [PySem.W.mg_of X G q_SHORTEST_NAME], k_SMALL_LETTERS := by unfold tok_SMALL_LETTERS; rw [PySem.W.mg_of X G q_SMALL_LETTERS], k_UNDECIDED := by unfold tok_UNDECIDED; rw [PySem.W.mg_of X G q_UNDECIDED], k_FIELD_MARKS := PySem.W.mg_of X G g_FIELD_MARKS, k_FIELD_WORDS := PySem.W.mg_of X G g_FIELD_WORDS, k_JOINTS := PySem.W.mg_of X G g_JOINTS, k_LENGTHS := PySem.W.mg_of X G g_LENGTHS, k_NO_NAMES := PySem.W.mg_of X G g_NO_NAMES, k_OPENINGS := PySem.W.mg_of X G g_OPENINGS, k_SINGLE_WORDS := PySem.W.mg_of X G g_SINGLE_WORDS, k_TEST_WORDS := PySem.W.mg_of X G g_TEST_WORDS, r_FIELD_WORDS := ktup_of l_FIELD_WORDS (big (Nat.le_trans y_FIELD_WORDS.1 (by decide))) y_FIELD_WORDS.2, r_NO_NAMES := ktup_of l_NO_NAMES (big (Nat.le_trans y_NO_NAMES.1 (by decide))) y_NO_NAMES.2, r_SINGLE_WORDS := ktup_of l_SINGLE_WORDS (big (Nat.le_trans y_SINGLE_WORDS.1 (by decide))) y_SINGLE_WORDS.2, r_TEST_WORDS := ktup_of l_TEST_WORDS (big (Nat.le_trans y_TEST_WORDS.1 (by decide))) y_TEST_WORDS.2, r_LENGTHS := ktab_of l_LENGTHS v_LENGTHS.1 v_LENGTHS.2.1 v_LENGTHS.2.2, r_FIELD_MARKS := ⟨_, _, l_FIELD_MARKS, v_FIELD_MARKS.1, v_FIELD_MARKS.2.1, v_FIELD_MARKS.2.2⟩, r_JOINTS := ⟨_, _, l_JOINTS, v_JOINTS.1, v_JOINTS.2.1, v_JOINTS.2.2⟩, r_OPENINGS := ⟨_, _, l_OPENINGS, v_OPENINGS.1, v_OPENINGS.2.1, v_OPENINGS.2.2⟩, c_SayError := PySem.W.mg_of X G g_SayError, c_NoShape := PySem.W.mg_of X G g_NoShape, c_NoSaying := PySem.W.mg_of X G g_NoSaying, c_NoText := PySem.W.mg_of X G g_NoText, x_NoSaying := x_NoSaying, p_NoSaying := p_NoSaying, u_NoSaying := u_NoSaying, t_NoSaying := t_NoSaying, x_NoShape := x_NoShape, p_NoShape := p_NoShape, u_NoShape := u_NoShape, t_NoShape := t_NoShape, x_NoText := x_NoText, p_NoText := p_NoText, u_NoText := u_NoText, t_NoText := t_NoText }
  have FC : Fcts K Z := { ok := trivial }
  have F_is_number := fun_mk (st := s_is_number) l_is_number c_is_number k_is_number
  have F_is_below := fun_mk (st := s_is_below) l_is_below c_is_below k_is_below
  have F_is_shape := fun_mk (st := s_is_shape) l_is_shape c_is_shape k_is_shape
  have F_check_shape := fun_mk (st := s_check_shape) l_check_shape c_check_shape k_check_shape
  have F_is_name := fun_mk (st := s_is_name) l_is_name c_is_name k_is_name
  have F_is_field_word := fun_mk (st := s_is_field_word) l_is_field_word c_is_field_word k_is_field_word
  have F_words_in := fun_mk (st := s_words_in) l_words_in c_words_in k_words_in
  have F_plain_part := fun_mk (st := s_plain_part) l_plain_part c_plain_part k_plain_part
  have F_open_bracket := fun_mk (st := s_open_bracket) l_open_bracket c_open_bracket k_open_bracket
  have F_join_bracket := fun_mk (st := s_join_bracket) l_join_bracket c_join_bracket k_join_bracket
  have F_close_bracket := fun_mk (st := s_close_bracket) l_close_bracket c_close_bracket k_close_bracket
  have F_parts_in := fun_mk (st := s_parts_in) l_parts_in c_parts_in k_parts_in
  have F_saying_from := fun_mk (st := s_saying_from) l_saying_from c_saying_from k_saying_from
  have F_has_part_form := fun_mk (st := s_has_part_form) l_has_part_form c_has_part_form k_has_part_form
  have F_inner_parts := fun_mk (st := s_inner_parts) l_inner_parts c_inner_parts k_inner_parts
  have F_is_made_well := fun_mk (st := s_is_made_well) l_is_made_well c_is_made_well k_is_made_well
  have F_is_saying := fun_mk (st := s_is_saying) l_is_saying c_is_saying k_is_saying
  have F_check_saying := fun_mk (st := s_check_saying) l_check_saying c_check_saying k_check_saying
  have F_pieces_of := fun_mk (st := s_pieces_of) l_pieces_of c_pieces_of k_pieces_of
  have F_shown_saying := fun_mk (st := s_shown_saying) l_shown_saying c_shown_saying k_shown_saying
  have F_read_saying := fun_mk (st := s_read_saying) l_read_saying c_read_saying k_read_saying
  have F__law_mixed := fun_mk (st := s__law_mixed) l__law_mixed c__law_mixed k__law_mixed
  have F__law_cell := fun_mk (st := s__law_cell) l__law_cell c__law_cell k__law_cell
  have F__law_take := fun_mk (st := s__law_take) l__law_take c__law_take k__law_take
  have F__law_shape := fun_mk (st := s__law_shape) l__law_shape c__law_shape k__law_shape
  have F__law_named := fun_mk (st := s__law_named) l__law_named c__law_named k__law_named
  have F__law_test := fun_mk (st := s__law_test) l__law_test c__law_test k__law_test
  have F__law_saying := fun_mk (st := s__law_saying) l__law_saying c__law_saying k__law_saying
  have F__law_drawn := fun_mk (st := s__law_drawn) l__law_drawn c__law_drawn k__law_drawn
  have F__law_text := fun_mk (st := s__law_text) l__law_text c__law_text k__law_text
  have F_law := fun_mk (st := s_law) l_law c_law k_law
  have y_is_name := tb_is_name _ cc_is_name tt_is_name _ _ _ _ _ _ (PySem.W.mg_of X G a_is_name) l_is_name rfl qc_is_name lc_is_name qt_is_name
  refine ⟨PySem.W.fnOf "law" "law" (defArgs s_law) (defBody s_law) (defScope s_law) .none kV_law dc_law pm_law an_law cd_law ct_law, [(cc_is_name, tt_is_name)], spD K 1 (fn_law Z), fun s v => .of_eq rfl, ?_, fun base _ _ tbs => ?_, fun H a ns hl hH hS => ?_⟩
  case refine_1 =>
    simp only [List.forall_mem_cons]
    exact ⟨⟨y_is_name.1, nk_is_name, y_is_name.2⟩, fun p hp => by cases hp⟩
  case refine_3 =>
    obtain ⟨ps', e, hl'⟩ := true_law K Z FC ns hl
    refine law_sp hS (fun b hb => ?_) e hl'
    simp only [List.forall_mem_cons] at hH
    replace hb : b ∈ [tt_is_name] := hb
    simp only [List.mem_cons, List.not_mem_nil, or_false] at hb
    obtain ⟨hh_is_name, _⟩ := hH
    rcases hb with rfl
    · exact ⟨#[], hh_is_name, trivial⟩
  simp only [List.forall_mem_cons] at tbs
  obtain ⟨B_is_name, _⟩ := tbs
  have E_is_number : FnE P w K mg base 1 "is_number" ["thing"] fn_is_number := ⟨⟨_, _, ok_is_number T F_is_number, PySem.W.mg_of X G a_is_number, k_is_number, F_is_number.binds (ps := ["thing"]) fun _ _ _ _ _ _ us hl => match us, hl with | [_], _ => rfl⟩, fun qs z e => fnD_len qs z e⟩
  have E_is_below : FnE P w K mg base 2 "is_below" ["thing", "most"] fn_is_below := ⟨⟨_, _, ok_is_below T F_is_below E_is_number, PySem.W.mg_of X G a_is_below, k_is_below, F_is_below.binds (ps := ["thing", "most"]) fun _ _ _ _ _ _ us hl => match us, hl with | [_, _], _ => rfl⟩, fun qs z e => fnD_len qs z e⟩
  have E_is_shape : FnE P w K mg base 2 "is_shape" ["thing"] fn_is_shape := ⟨⟨_, _, ok_is_shape T F_is_shape E_is_number, PySem.W.mg_of X G a_is_shape, k_is_shape, F_is_shape.binds (ps := ["thing"]) fun _ _ _ _ _ _ us hl => match us, hl with | [_], _ => rfl⟩, fun qs z e => fnD_len qs z e⟩
  have E_check_shape : FnE P w K mg base 3 "check_shape" ["shape"] (fn_check_shape Z) := ⟨⟨_, _, ok_check_shape T F_check_shape E_is_shape, PySem.W.mg_of X G a_check_shape, k_check_shape, F_check_shape.binds (ps := ["shape"]) fun _ _ _ _ _ _ us hl => match us, hl with | [_], _ => rfl⟩, fun qs z e => fnD_len qs z e⟩
  have E_is_name : FnE P w K mg base 2 "is_name" ["word"] fn_is_name := ⟨⟨_, _, ok_is_name T F_is_name qc_is_name B_is_name (show tt_is_name ∈ [tt_is_name] by simp), PySem.W.mg_of X G a_is_name, k_is_name, F_is_name.binds (ps := ["word"]) fun _ _ _ _ _ _ us hl => match us, hl with | [_], _ => rfl⟩, fun qs z e => fnD_len qs z e⟩
  have E_is_field_word : FnE P w K mg base 1 "is_field_word" ["word"] fn_is_field_word := ⟨⟨_, _, ok_is_field_word T F_is_field_word, PySem.W.mg_of X G a_is_field_word, k_is_field_word, F_is_field_word.binds (ps := ["word"]) fun _ _ _ _ _ _ us hl => match us, hl with | [_], _ => rfl⟩, fun qs z e => fnD_len qs z e⟩
  have E_words_in : FnE P w K mg base 1 "words_in" ["text"] (fn_words_in Z) := ⟨⟨_, _, ok_words_in T F_words_in, PySem.W.mg_of X G a_words_in, k_words_in, F_words_in.binds (ps := ["text"]) fun _ _ _ _ _ _ us hl => match us, hl with | [_], _ => rfl⟩, fun qs z e => fnD_len qs z e⟩
  have E_plain_part : FnE P w K mg base 3 "plain_part" ["word", "with_names"] (fn_plain_part Z) := ⟨⟨_, _, ok_plain_part T F_plain_part E_is_name E_is_field_word, PySem.W.mg_of X G a_plain_part, k_plain_part, F_plain_part.binds (ps := ["word", "with_names"]) fun _ _ _ _ _ _ us hl => match us, hl with | [_, _], _ => rfl⟩, fun qs z e => fnD_len qs z e⟩
  have E_open_bracket : FnE P w K mg base 1 "open_bracket" ["opened", "kind"] (fn_open_bracket Z) := ⟨⟨_, _, ok_open_bracket T F_open_bracket, PySem.W.mg_of X G a_open_bracket, k_open_bracket, F_open_bracket.binds (ps := ["opened", "kind"]) fun _ _ _ _ _ _ us hl => match us, hl with | [_, _], _ => rfl⟩, fun qs z e => fnD_len qs z e⟩
  have E_join_bracket : FnE P w K mg base 1 "join_bracket" ["opened", "kind"] (fn_join_bracket Z) := ⟨⟨_, _, ok_join_bracket T F_join_bracket, PySem.W.mg_of X G a_join_bracket, k_join_bracket, F_join_bracket.binds (ps := ["opened", "kind"]) fun _ _ _ _ _ _ us hl => match us, hl with | [_, _], _ => rfl⟩, fun qs z e => fnD_len qs z e⟩
  have E_close_bracket : FnE P w K mg base 1 "close_bracket" ["opened"] (fn_close_bracket Z) := ⟨⟨_, _, ok_close_bracket T F_close_bracket, PySem.W.mg_of X G a_close_bracket, k_close_bracket, F_close_bracket.binds (ps := ["opened"]) fun _ _ _ _ _ _ us hl => match us, hl with | [_], _ => rfl⟩, fun qs z e => fnD_len qs z e⟩
  have E_parts_in : FnE P w K mg base 4 "parts_in" ["text", "with_names"] (fn_parts_in Z) := ⟨⟨_, _, ok_parts_in T F_parts_in E_words_in E_plain_part E_open_bracket E_join_bracket E_close_bracket, PySem.W.mg_of X G a_parts_in, k_parts_in, F_parts_in.binds (ps := ["text", "with_names"]) fun _ _ _ _ _ _ us hl => match us, hl with | [_, _], _ => rfl⟩, fun qs z e => fnD_len qs z e⟩
  have E_saying_from : FnE P w K mg base 1 "saying_from" ["parts", "names"] fn_saying_from := ⟨⟨_, _, ok_saying_from T F_saying_from, PySem.W.mg_of X G a_saying_from, k_saying_from, F_saying_from.binds (ps := ["parts", "names"]) fun _ _ _ _ _ _ us hl => match us, hl with | [_, _], _ => rfl⟩, fun qs z e => fnD_len qs z e⟩
  have E_has_part_form : FnE P w K mg base 3 "has_part_form" ["shape", "thing"] fn_has_part_form := ⟨⟨_, _, ok_has_part_form T F_has_part_form E_is_below, PySem.W.mg_of X G a_has_part_form, k_has_part_form, F_has_part_form.binds (ps := ["shape", "thing"]) fun _ _ _ _ _ _ us hl => match us, hl with | [_, _], _ => rfl⟩, fun qs z e => fnD_len qs z e⟩
  have E_inner_parts : FnE P w K mg base 1 "inner_parts" ["part"] fn_inner_parts := ⟨⟨_, _, ok_inner_parts T F_inner_parts, PySem.W.mg_of X G a_inner_parts, k_inner_parts, F_inner_parts.binds (ps := ["part"]) fun _ _ _ _ _ _ us hl => match us, hl with | [_], _ => rfl⟩, fun qs z e => fnD_len qs z e⟩
  have E_is_made_well : FnE P w K mg base 4 "is_made_well" ["shape", "thing", "as_test"] fn_is_made_well := ⟨⟨_, _, ok_is_made_well T F_is_made_well E_has_part_form E_inner_parts, PySem.W.mg_of X G a_is_made_well, k_is_made_well, F_is_made_well.binds (ps := ["shape", "thing", "as_test"]) fun _ _ _ _ _ _ us hl => match us, hl with | [_, _, _], _ => rfl⟩, fun qs z e => fnD_len qs z e⟩
  have E_is_saying : FnE P w K mg base 5 "is_saying" ["shape", "thing"] (fn_is_saying Z) := ⟨⟨_, _, ok_is_saying T F_is_saying E_check_shape E_is_made_well, PySem.W.mg_of X G a_is_saying, k_is_saying, F_is_saying.binds (ps := ["shape", "thing"]) fun _ _ _ _ _ _ us hl => match us, hl with | [_, _], _ => rfl⟩, fun qs z e => fnD_len qs z e⟩
  have E_check_saying : FnE P w K mg base 6 "check_saying" ["shape", "saying"] (fn_check_saying Z) := ⟨⟨_, _, ok_check_saying T F_check_saying E_is_saying, PySem.W.mg_of X G a_check_saying, k_check_saying, F_check_saying.binds (ps := ["shape", "saying"]) fun _ _ _ _ _ _ us hl => match us, hl with | [_, _], _ => rfl⟩, fun qs z e => fnD_len qs z e⟩
  have E_pieces_of : FnE P w K mg base 1 "pieces_of" ["part"] fn_pieces_of := ⟨⟨_, _, ok_pieces_of T F_pieces_of, PySem.W.mg_of X G a_pieces_of, k_pieces_of, F_pieces_of.binds (ps := ["part"]) fun _ _ _ _ _ _ us hl => match us, hl with | [_], _ => rfl⟩, fun qs z e => fnD_len qs z e⟩
  have E_shown_saying : FnE P w K mg base 7 "shown_saying" ["shape", "saying"] (fn_shown_saying Z) := ⟨⟨_, _, ok_shown_saying T F_shown_saying E_check_saying E_pieces_of, PySem.W.mg_of X G a_shown_saying, k_shown_saying, F_shown_saying.binds (ps := ["shape", "saying"]) fun _ _ _ _ _ _ us hl => match us, hl with | [_, _], _ => rfl⟩, fun qs z e => fnD_len qs z e⟩
  have E_read_saying : FnE P w K mg base 6 "read_saying" ["shape", "text"] (fn_read_saying Z) := ⟨⟨_, _, ok_read_saying T F_read_saying E_check_shape E_parts_in E_saying_from E_is_saying, PySem.W.mg_of X G a_read_saying, k_read_saying, F_read_saying.binds (ps := ["shape", "text"]) fun _ _ _ _ _ _ us hl => match us, hl with | [_, _], _ => rfl⟩, fun qs z e => fnD_len qs z e⟩
  have E__law_mixed : FnE P w K mg base 1 "_law_mixed" ["_law_cell_here", "_law_k"] fn__law_mixed := ⟨⟨_, _, ok__law_mixed T F__law_mixed, PySem.W.mg_of X G a__law_mixed, k__law_mixed, F__law_mixed.binds (ps := ["_law_cell_here", "_law_k"]) fun _ _ _ _ _ _ us hl => match us, hl with | [_, _], _ => rfl⟩, fun qs z e => fnD_len qs z e⟩
  have E__law_cell : FnE P w K mg base 2 "_law_cell" ["_law_script", "_law_k"] fn__law_cell := ⟨⟨_, _, ok__law_cell T F__law_cell E__law_mixed, PySem.W.mg_of X G a__law_cell, k__law_cell, F__law_cell.binds (ps := ["_law_script", "_law_k"]) fun _ _ _ _ _ _ us hl => match us, hl with | [_, _], _ => rfl⟩, fun qs z e => fnD_len qs z e⟩
  have E__law_take : FnE P w K mg base 1 "_law_take" ["_law_pile", "_law_size"] fn__law_take := ⟨⟨_, _, ok__law_take T F__law_take, PySem.W.mg_of X G a__law_take, k__law_take, F__law_take.binds (ps := ["_law_pile", "_law_size"]) fun _ _ _ _ _ _ us hl => match us, hl with | [_, _], _ => rfl⟩, fun qs z e => fnD_len qs z e⟩
  have E__law_shape : FnE P w K mg base 2 "_law_shape" ["_law_pile"] fn__law_shape := ⟨⟨_, _, ok__law_shape T F__law_shape E__law_take, PySem.W.mg_of X G a__law_shape, k__law_shape, F__law_shape.binds (ps := ["_law_pile"]) fun _ _ _ _ _ _ us hl => match us, hl with | [_], _ => rfl⟩, fun qs z e => fnD_len qs z e⟩
  have E__law_named : FnE P w K mg base 2 "_law_named" ["_law_pile", "_law_word", "_law_shape_here"] fn__law_named := ⟨⟨_, _, ok__law_named T F__law_named E__law_take, PySem.W.mg_of X G a__law_named, k__law_named, F__law_named.binds (ps := ["_law_pile", "_law_word", "_law_shape_here"]) fun _ _ _ _ _ _ us hl => match us, hl with | [_, _, _], _ => rfl⟩, fun qs z e => fnD_len qs z e⟩
  have M__law_test : Named K mg "_law_test" f__law_test _ ["_law_pile", "_law_shape_here", "_law_deep"] := ⟨PySem.W.mg_of X G a__law_test, k__law_test, F__law_test.binds (ps := ["_law_pile", "_law_shape_here", "_law_deep"]) fun _ _ _ _ _ _ us hl => match us, hl with | [_, _, _], _ => rfl⟩
  have A__law_test : ∀ k : Nat, FnE P w K mg base (k + 2) "_law_test" ["_law_pile", "_law_shape_here", "_law_deep"] (fn__law_test k) := fun k => ⟨⟨_, _, ok__law_test T F__law_test M__law_test E__law_take E__law_named k, M__law_test.at_, M__law_test.keep, M__law_test.binds⟩, fl__law_test k⟩
  have E__law_test := A__law_test FU
  have M__law_saying : Named K mg "_law_saying" f__law_saying _ ["_law_pile", "_law_shape_here", "_law_deep", "_law_notes"] := ⟨PySem.W.mg_of X G a__law_saying, k__law_saying, F__law_saying.binds (ps := ["_law_pile", "_law_shape_here", "_law_deep", "_law_notes"]) fun _ _ _ _ _ _ us hl => match us, hl with | [_, _, _, _], _ => rfl⟩
  have A__law_saying : ∀ k : Nat, FnE P w K mg base (k + 2) "_law_saying" ["_law_pile", "_law_shape_here", "_law_deep", "_law_notes"] (fn__law_saying k) := fun k => ⟨⟨_, _, ok__law_saying T F__law_saying M__law_saying E__law_take E__law_named A__law_test k, M__law_saying.at_, M__law_saying.keep, M__law_saying.binds⟩, fl__law_saying k⟩
  have E__law_saying := A__law_saying FU
  have E__law_drawn : FnE P w K mg base (FU + 3) "_law_drawn" ["_law_script", "_law_k", "_law_deep"] fn__law_drawn := ⟨⟨_, _, ok__law_drawn T F__law_drawn E__law_cell E__law_take E__law_shape E__law_saying, PySem.W.mg_of X G a__law_drawn, k__law_drawn, F__law_drawn.binds (ps := ["_law_script", "_law_k", "_law_deep"]) fun _ _ _ _ _ _ us hl => match us, hl with | [_, _, _], _ => rfl⟩, fun qs z e => fnD_len qs z e⟩
  have M__law_text : Named K mg "_law_text" f__law_text _ ["_law_saying_here"] := ⟨PySem.W.mg_of X G a__law_text, k__law_text, F__law_text.binds (ps := ["_law_saying_here"]) fun _ _ _ _ _ _ us hl => match us, hl with | [_], _ => rfl⟩
  have A__law_text : ∀ k : Nat, FnE P w K mg base (k + 0) "_law_text" ["_law_saying_here"] (fn__law_text k) := fun k => ⟨⟨_, _, ok__law_text T F__law_text M__law_text k, M__law_text.at_, M__law_text.keep, M__law_text.binds⟩, fl__law_text k⟩
  have E__law_text := A__law_text FU
  exact ok_law T F_law E_shown_saying E_read_saying E__law_drawn E__law_text
end KQ
end
open PySem PySem.W PyProof.Rows
set_option maxRecDepth 100000 in
set_option maxHeartbeats 0 in
theorem PySem.Challenge.cw_roadsay_k68_sayings_as_texts_holds : PySem.Challenge.rw_roadsay_k68_sayings_as_texts.Holds := by
  w_on; o_law; k_head; (case hw => w_witness2)
  k_fill
  refine Q.walk_gT (l := PySem.Challenge.rw_roadsay_k68_sayings_as_texts) (n := 63) (k := (KQ.FU + 8)) (x := "_law_script") rfl (by decide) rfl ⟨rfl, by decide, by decide⟩ (fun w h Y => PySem.W.kIn_of Y) ?F
  case F =>
    intro w mg fa h KX G hmg tabs
    refine' KQ.all_mk KQ.true_law KX G hmg ?a_is_number ?l_is_number ?c_is_number ?k_is_number ?a_is_below ?l_is_below ?c_is_below ?k_is_below ?a_is_shape ?l_is_shape ?c_is_shape ?k_is_shape ?a_check_shape ?l_check_shape ?c_check_shape ?k_check_shape ?a_is_name ?l_is_name ?c_is_name ?k_is_name ?a_is_field_word ?l_is_field_word ?c_is_field_word ?k_is_field_word ?a_words_in ?l_words_in ?c_words_in ?k_words_in ?a_plain_part ?l_plain_part ?c_plain_part ?k_plain_part ?a_open_bracket ?l_open_bracket ?c_open_bracket ?k_open_bracket ?a_join_bracket ?l_join_bracket ?c_join_bracket ?k_join_bracket ?a_close_bracket ?l_close_bracket ?c_close_bracket ?k_close_bracket ?a_parts_in ?l_parts_in ?c_parts_in ?k_parts_in ?a_saying_from ?l_saying_from ?c_saying_from ?k_saying_from ?a_has_part_form ?l_has_part_form ?c_has_part_form ?k_has_part_form ?a_inner_parts ?l_inner_parts ?c_inner_parts ?k_inner_parts ?a_is_made_well ?l_is_made_well ?c_is_made_well ?k_is_made_well ?a_is_saying ?l_is_saying ?c_is_saying ?k_is_saying ?a_check_saying ?l_check_saying ?c_check_saying ?k_check_saying ?a_pieces_of ?l_pieces_of ?c_pieces_of ?k_pieces_of ?a_shown_saying ?l_shown_saying ?c_shown_saying ?k_shown_saying ?a_read_saying ?l_read_saying ?c_read_saying ?k_read_saying ?a__law_mixed ?l__law_mixed ?c__law_mixed ?k__law_mixed ?a__law_cell ?l__law_cell ?c__law_cell ?k__law_cell ?a__law_take ?l__law_take ?c__law_take ?k__law_take ?a__law_shape ?l__law_shape ?c__law_shape ?k__law_shape ?a__law_named ?l__law_named ?c__law_named ?k__law_named ?a__law_test ?l__law_test ?c__law_test ?k__law_test ?a__law_saying ?l__law_saying ?c__law_saying ?k__law_saying ?a__law_drawn ?l__law_drawn ?c__law_drawn ?k__law_drawn ?a__law_text ?l__law_text ?c__law_text ?k__law_text ?a_law ?l_law ?c_law ?k_law ?qc_is_name ?lc_is_name ?qt_is_name ?nk_is_name ?tb_is_name ?z_all ?z_bool ?z_int ?z_isinstance ?z_len ?z_min ?z_range ?z_repr ?z_str ?z_tuple ?g_FIELD_MARKS ?l_FIELD_MARKS ?v_FIELD_MARKS ?q_FIELD_SIGNS ?g_FIELD_WORDS ?l_FIELD_WORDS ?y_FIELD_WORDS ?q_FIGURES ?g_JOINTS ?l_JOINTS ?v_JOINTS ?g_LENGTHS ?l_LENGTHS ?v_LENGTHS ?q_LONGEST_NAME ?q_MOST_FIELDS ?q_MOST_LETTERS ?q_MOST_NOTES ?q_MOST_OPEN ?q_MOST_VALUES ?g_NO_NAMES ?l_NO_NAMES ?y_NO_NAMES ?g_OPENINGS ?l_OPENINGS ?v_OPENINGS ?q_SHORTEST_NAME ?g_SINGLE_WORDS ?l_SINGLE_WORDS ?y_SINGLE_WORDS ?q_SMALL_LETTERS ?g_TEST_WORDS ?l_TEST_WORDS ?y_TEST_WORDS ?q_UNDECIDED ?g_SayError ?g_NoShape ?g_NoSaying ?g_NoText ?x_NoSaying ?p_NoSaying ?u_NoSaying ?t_NoSaying ?x_NoShape ?p_NoShape ?u_NoShape ?t_NoShape ?x_NoText ?p_NoText ?u_NoText ?t_NoText
    (case a_is_number => k_is)
    (case l_is_number => k_is)
    (case c_is_number => k_is)
    (case k_is_number => k_is)
    (case a_is_below => k_is)
    (case l_is_below => k_is)
    (case c_is_below => k_is)
    (case k_is_below => k_is)
    (case a_is_shape => k_is)
    (case l_is_shape => k_is)
    (case c_is_shape => k_is)
    (case k_is_shape => k_is)
    (case a_check_shape => k_is)
    (case l_check_shape => k_is)
    (case c_check_shape => k_is)
    (case k_check_shape => k_is)
    (case a_is_name => k_is)
    (case l_is_name => k_is)
    (case c_is_name => k_is)
    (case k_is_name => k_is)
    (case a_is_field_word => k_is)
    (case l_is_field_word => k_is)
    (case c_is_field_word => k_is)
    (case k_is_field_word => k_is)
    (case a_words_in => k_is)
    (case l_words_in => k_is)
    (case c_words_in => k_is)
    (case k_words_in => k_is)
    (case a_plain_part => k_is)
    (case l_plain_part => k_is)
    (case c_plain_part => k_is)
    (case k_plain_part => k_is)
    (case a_open_bracket => k_is)
    (case l_open_bracket => k_is)
    (case c_open_bracket => k_is)
    (case k_open_bracket => k_is)
    (case a_join_bracket => k_is)
    (case l_join_bracket => k_is)
    (case c_join_bracket => k_is)
    (case k_join_bracket => k_is)
    (case a_close_bracket => k_is)
    (case l_close_bracket => k_is)
    (case c_close_bracket => k_is)
    (case k_close_bracket => k_is)
    (case a_parts_in => k_is)
    (case l_parts_in => k_is)
    (case c_parts_in => k_is)
    (case k_parts_in => k_is)
    (case a_saying_from => k_is)
    (case l_saying_from => k_is)
    (case c_saying_from => k_is)
    (case k_saying_from => k_is)
    (case a_has_part_form => k_is)
    (case l_has_part_form => k_is)
    (case c_has_part_form => k_is)
    (case k_has_part_form => k_is)
    (case a_inner_parts => k_is)
    (case l_inner_parts => k_is)
    (case c_inner_parts => k_is)
    (case k_inner_parts => k_is)
    (case a_is_made_well => k_is)
    (case l_is_made_well => k_is)
    (case c_is_made_well => k_is)
    (case k_is_made_well => k_is)
    (case a_is_saying => k_is)
    (case l_is_saying => k_is)
    (case c_is_saying => k_is)
    (case k_is_saying => k_is)
    (case a_check_saying => k_is)
    (case l_check_saying => k_is)
    (case c_check_saying => k_is)
    (case k_check_saying => k_is)
    (case a_pieces_of => k_is)
    (case l_pieces_of => k_is)
    (case c_pieces_of => k_is)
    (case k_pieces_of => k_is)
    (case a_shown_saying => k_is)
    (case l_shown_saying => k_is)
    (case c_shown_saying => k_is)
    (case k_shown_saying => k_is)
    (case a_read_saying => k_is)
    (case l_read_saying => k_is)
    (case c_read_saying => k_is)
    (case k_read_saying => k_is)
    (case a__law_mixed => k_is)
    (case l__law_mixed => k_is)
    (case c__law_mixed => k_is)
    (case k__law_mixed => k_is)
    (case a__law_cell => k_is)
    (case l__law_cell => k_is)
    (case c__law_cell => k_is)
    (case k__law_cell => k_is)
    (case a__law_take => k_is)
    (case l__law_take => k_is)
    (case c__law_take => k_is)
    (case k__law_take => k_is)
    (case a__law_shape => k_is)
    (case l__law_shape => k_is)
    (case c__law_shape => k_is)
    (case k__law_shape => k_is)
    (case a__law_named => k_is)
    (case l__law_named => k_is)
    (case c__law_named => k_is)
    (case k__law_named => k_is)
    (case a__law_test => k_is)
    (case l__law_test => k_is)
    (case c__law_test => k_is)
    (case k__law_test => k_is)
    (case a__law_saying => k_is)
    (case l__law_saying => k_is)
    (case c__law_saying => k_is)
    (case k__law_saying => k_is)
    (case a__law_drawn => k_is)
    (case l__law_drawn => k_is)
    (case c__law_drawn => k_is)
    (case k__law_drawn => k_is)
    (case a__law_text => k_is)
    (case l__law_text => k_is)
    (case c__law_text => k_is)
    (case k__law_text => k_is)
    (case a_law => k_is)
    (case l_law => k_is)
    (case c_law => k_is)
    (case k_law => k_is)
    (case qc_is_name => rfl)
    (case lc_is_name => rfl)
    (case qt_is_name => rfl)
    (case nk_is_name => rfl)
    (case tb_is_name => exact tabs _ (by rfl))
    (case z_all => k_is)
    (case z_bool => k_is)
    (case z_int => k_is)
    (case z_isinstance => k_is)
    (case z_len => k_is)
    (case z_min => k_is)
    (case z_range => k_is)
    (case z_repr => k_is)
    (case z_str => k_is)
    (case z_tuple => k_is)
    (case g_FIELD_MARKS => k_is)
    (case l_FIELD_MARKS => k_is)
    (case v_FIELD_MARKS => exact ⟨⟨⟨_, _, rfl, rfl⟩, ⟨_, _, rfl, rfl⟩, trivial⟩, by decide, ⟨⟨_, rfl⟩, _, rfl⟩, ⟨⟨_, rfl⟩, _, rfl⟩, trivial⟩)
    (case q_FIELD_SIGNS => k_is)
    (case g_FIELD_WORDS => k_is)
    (case l_FIELD_WORDS => k_is)
    (case y_FIELD_WORDS => exact ⟨by decide, ⟨_, rfl⟩, ⟨_, rfl⟩, trivial⟩)
    (case q_FIGURES => k_is)
    (case g_JOINTS => k_is)
    (case l_JOINTS => k_is)
    (case v_JOINTS => exact ⟨⟨⟨_, _, rfl, rfl⟩, ⟨_, _, rfl, rfl⟩, trivial⟩, by decide, ⟨⟨_, rfl⟩, _, rfl⟩, ⟨⟨_, rfl⟩, _, rfl⟩, trivial⟩)
    (case g_LENGTHS => k_is)
    (case l_LENGTHS => k_is)
    (case v_LENGTHS => exact ⟨⟨⟨_, _, rfl, rfl⟩, ⟨_, _, rfl, rfl⟩, ⟨_, _, rfl, rfl⟩, ⟨_, _, rfl, rfl⟩, ⟨_, _, rfl, rfl⟩, ⟨_, _, rfl, rfl⟩, ⟨_, _, rfl, rfl⟩, ⟨_, _, rfl, rfl⟩, ⟨_, _, rfl, rfl⟩, trivial⟩, by decide, ⟨⟨_, rfl⟩, _, rfl⟩, ⟨⟨_, rfl⟩, _, rfl⟩, ⟨⟨_, rfl⟩, _, rfl⟩, ⟨⟨_, rfl⟩, _, rfl⟩, ⟨⟨_, rfl⟩, _, rfl⟩, ⟨⟨_, rfl⟩, _, rfl⟩, ⟨⟨_, rfl⟩, _, rfl⟩, ⟨⟨_, rfl⟩, _, rfl⟩, ⟨⟨_, rfl⟩, _, rfl⟩, trivial⟩)
    (case q_LONGEST_NAME => k_is)
    (case q_MOST_FIELDS => k_is)
    (case q_MOST_LETTERS => k_is)
    (case q_MOST_NOTES => k_is)
    (case q_MOST_OPEN => k_is)
    (case q_MOST_VALUES => k_is)
    (case g_NO_NAMES => k_is)
    (case l_NO_NAMES => k_is)
    (case y_NO_NAMES => exact ⟨by decide, ⟨_, rfl⟩, ⟨_, rfl⟩, ⟨_, rfl⟩, ⟨_, rfl⟩, ⟨_, rfl⟩, trivial⟩)
    (case g_OPENINGS => k_is)
    (case l_OPENINGS => k_is)
    (case v_OPENINGS => exact ⟨⟨⟨_, _, rfl, rfl⟩, ⟨_, _, rfl, rfl⟩, ⟨_, _, rfl, rfl⟩, trivial⟩, by decide, ⟨⟨_, rfl⟩, _, rfl⟩, ⟨⟨_, rfl⟩, _, rfl⟩, ⟨⟨_, rfl⟩, _, rfl⟩, trivial⟩)
    (case q_SHORTEST_NAME => k_is)
    (case g_SINGLE_WORDS => k_is)
    (case l_SINGLE_WORDS => k_is)
    (case y_SINGLE_WORDS => exact ⟨by decide, ⟨_, rfl⟩, ⟨_, rfl⟩, ⟨_, rfl⟩, trivial⟩)
    (case q_SMALL_LETTERS => k_is)
    (case g_TEST_WORDS => k_is)
    (case l_TEST_WORDS => k_is)
    (case y_TEST_WORDS => exact ⟨by decide, ⟨_, rfl⟩, ⟨_, rfl⟩, ⟨_, rfl⟩, ⟨_, rfl⟩, ⟨_, rfl⟩, ⟨_, rfl⟩, trivial⟩)
    (case q_UNDECIDED => k_is)
    (case g_SayError => k_is)
    (case g_NoShape => k_is)
    (case g_NoSaying => k_is)
    (case g_NoText => k_is)
    (case x_NoSaying => k_exc)
    (case p_NoSaying => k_is)
    (case u_NoSaying => k_is)
    (case t_NoSaying => k_is)
    (case x_NoShape => k_exc)
    (case p_NoShape => k_is)
    (case u_NoShape => k_is)
    (case t_NoShape => k_is)
    (case x_NoText => k_exc)
    (case p_NoText => k_is)
    (case u_NoText => k_is)
    (case t_NoText => k_is)
